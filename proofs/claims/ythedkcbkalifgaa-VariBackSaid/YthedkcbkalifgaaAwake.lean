/-
  Walk of moorings/mooringslaw01.awake: the chapter's examples hold: true; nothing that was there is written.
-/
import Derived.Test.YthedkcbkalifgaaRead
namespace Go.Proofs.Ythedkcbkalifgaa
open Go.RowKit

/-- **Read**, at whatever slice of bytes. -/
theorem read_any (a : Option Addr) (len cap : Nat) (L : List Int) (w : World) (hl : L.length = len) (h : RowIn .u8 w a cap L) :
    Calls Try.prog 14 #[.slice a len cap] w (ReadIs L w.heap.size w) := (callsIn_wide (n := 5)).1 (read_in 5 (by omega) a len cap L w hl h)

theorem ownsRow_take {w : World} {B e n m : Nat} {g cap : Nat} {xs ys : List Value} (h : w.ownsRow B e 1 (.slice (some ⟨g, 0, none⟩) (n + m) cap) (n + m) (xs ++ ys)) (hx : xs.length = n) : w.ownsRow B e 1 (.slice (some ⟨g, 0, none⟩) n cap) n xs := by
  refine ⟨by omega, ?_⟩
  rcases h.2 with ⟨h0, _⟩ | ⟨g', cap', cur, he, hb, hg, hle, hm, hs, ht⟩
  · cases h0
  · simp at he
    obtain ⟨rfl, rfl⟩ := he
    refine .inr ⟨g, cap, cur, rfl, hb, hg, by omega, hm, hs, ?_⟩
    have t1 : (cur.toList.take ((n + m) * 1)).take n = (xs ++ ys).take n := by rw [ht]
    rw [List.take_take, Nat.min_eq_left (by omega)] at t1
    rw [Nat.mul_one, t1, List.take_append_of_le_length (by omega), List.take_of_length_le (l := xs) (by omega)]

/-- append to a slice of the call's own: as 'wpList_append_own'; and what the old slice owned it owns still. -/
theorem wpList_append_keep {P : Program} (w : World) {ops : Array Oper} {rest : List Oper} {o : Oper} {a : Act} {Q : Exit → Act → World → Prop} (hgd : o.guard = none) (s x : Operand) (t : TypeId)
    (ho : o.op = .call { callee := .builtin .append, args := #[s, x], argTypes := #[t, t] })
    (base : Nat) (e : TypeId) (i : TypeInfo) (z : Value) (bytes : Nat) (ht : P.underlying t = some (.slice e)) (hi : P.info? e = some i) (hz : i.zero = some z)
    (hsize : i.size = 1) (hby : i.bytes = bytes) (hzs : z.cells.size = 1)
    (g n cap : Nat) (xs : List Value) (hs : a.eval s = .slice (some ⟨g, 0, none⟩) n cap) (hown : w.ownsRow base e 1 (.slice (some ⟨g, 0, none⟩) n cap) n xs)
    (ad : Addr) (m c : Nat) (news : List Value) (hx : a.eval x = .slice (some ad) m c) (hl : news.length = m * 1) (hnews : ∀ j u, news[j]? = some u → w.cell? (ad.add j) = some u) (h1 : ∀ u ∈ news, u.oneCell' = true)
    (h63 : n + m ≤ maxLen) (hbytes : (n + m) * bytes ≤ 140737488355328) (hbase : base ≤ w.heap.size)
    (h : ∀ v' w', w'.ownsRow base e 1 v' (n + m) (xs ++ news) → w'.ownsRow base e 1 (.slice (some ⟨g, 0, none⟩) n cap) n xs → w.grownBy w' (some g) → wpList P ops Q rest (a.put o.dst v') w') : wpList P ops Q (o :: rest) a w := by
  by_cases hc : n + m ≤ cap
  · exact wpList_append_fits w hgd s x t ho base e i 1 ht hi hsize g n cap xs hs hown ad m c news hx hl hnews h1 hc (fun w' r1 r2 => h _ _ r1 (ownsRow_take r1 (by simpa using hown.1)) r2)
  · refine wpList_append_grows w hgd s x t ho e i z 1 bytes ht hi hz hsize hby hzs (by omega) (some ⟨g, 0, none⟩) n cap xs hs (by simp) hown.1 (fun b hb => ?_) ad m c news hx hl hnews h1 (by omega) h63 hbytes (fun v' w' r1 r2 => h _ _ (ownsRow_base r1 hbase) (hown.kept r2 (.inr (by simp [Value.ownBlock]))) ?_)
    · cases hb; exact hown.cells rfl
    · exact ⟨r2.os, r2.tape, r2.output, r2.size, fun k hk _ => r2.block k hk (by simp)⟩

theorem put300 : M.put 300 = [172, 2] := by
  rw [M.put_yes (by decide) (by decide), M.puts_ge (by decide), M.puts_lt (by decide)]; rfl
theorem put5 : M.put 5 = [5] := by rw [M.put_yes (by decide) (by decide), M.puts_lt (by decide)]; rfl
theorem all3005 : M.all [300, 5] = some [172, 2, 5] := all_some.2 ⟨by simp, by simp [M.isn], by simp [put300, put5]⟩
theorem read3005 : M.read [172, 2, 5] = some [300, 5] := read_some.2 all3005
theorem get300 : M.get [172, 2] 0 = (300, 2) := by decide
theorem get1280 : M.get [128, 0] 0 = (0, -1) := by decide

theorem put300_any (w : World) : Calls Try.prog 17 #[.int .i64 300] w fun e w' => ∃ g cap, e = .returned (.slice (some ⟨g, 0, none⟩) 2 cap) ∧ Hid (w'.ownsRow w.heap.size 5 1 (.slice (some ⟨g, 0, none⟩) 2 cap) 2 [.int .u8 172, .int .u8 2]) ∧ Below w.heap.size w w' :=
  (put_any 300 w).mono fun e w' ⟨v, he, ho, hb⟩ => by
    rw [put300] at ho
    obtain ⟨g, cap, rfl⟩ := ownsRow_some ho (by simp)
    exact ⟨g, cap, he, ho, hb⟩

theorem two_row (w : World) (x y : Int) (k : IntKind) (t : TypeId) (hx : (Lit.int k x).wf = true) (hy : (Lit.int k y).wf = true) : RowIn k (w.alloc (.cells #[.int k x, .int k y] t)) (some ⟨w.heap.size, 0, none⟩) 2 [x, y] := by
  refine ⟨⟨by simp, by simp [maxLen]⟩, by simp [hx, hy], .inr ⟨_, _, rfl, by simp, ?_⟩⟩
  intro i hi
  have hb : (w.alloc (.cells #[.int k x, .int k y] t)).heap[w.heap.size]? = some (.cells #[.int k x, .int k y] t) := World.alloc_heap_new w _
  match i, hi with
  | 0, _ => unfold World.cell?; rw [show (⟨w.heap.size, 0 + 0, none⟩ : Addr).block = w.heap.size from rfl, hb]; rfl
  | 1, _ => unfold World.cell?; rw [show (⟨w.heap.size, 0 + 1, none⟩ : Addr).block = w.heap.size from rfl, hb]; rfl

theorem row3_of {w : World} {B g cap : Nat} {xs : List Int} {k : IntKind} {e n : Nat} (h : w.ownsRow B e 1 (.slice (some ⟨g, 0, none⟩) n cap) n (xs.map (Value.int k))) (hw : ∀ n ∈ xs, (Lit.int k n).wf = true) : RowIn k w (some ⟨g, 0, none⟩) cap xs := by
  obtain ⟨a, c, he, _, hr⟩ := ownsRow_rowIn h hw
  simp at he
  obtain ⟨rfl, rfl⟩ := he
  exact hr

theorem read3_any (a : Option Addr) (cap : Nat) (w : World) (h : RowIn .u8 w a cap [172, 2, 5]) : Calls Try.prog 14 #[.slice a 3 cap] w fun e w' => ∃ g cap, e = .returned (.tuple #[.slice (some ⟨g, 0, none⟩) 2 cap, .bool true]) ∧ Hid (w'.ownsRow w.heap.size 3 1 (.slice (some ⟨g, 0, none⟩) 2 cap) 2 [.int .i64 300, .int .i64 5]) ∧ Below w.heap.size w w' :=
  (read_any a 3 cap _ w rfl h).mono fun e w' ⟨v, ok, he, hok, ho, hb⟩ => by
    rw [read3005] at ho hok
    simp at hok
    subst hok
    obtain ⟨g, cap, rfl⟩ := ownsRow_some ho (by simp)
    exact ⟨g, cap, he, ho, hb⟩

theorem all2_any (a : Option Addr) (cap : Nat) (w : World) (h : RowIn .i64 w a cap [300, 5]) : Calls Try.prog 12 #[.slice a 2 cap] w fun e w' => ∃ g cap, e = .returned (.tuple #[.slice (some ⟨g, 0, none⟩) 3 cap, .bool true]) ∧ Below w.heap.size w w' :=
  (all_any a 2 cap _ w rfl h).mono fun e w' ⟨v, ok, he, hok, ho, hb⟩ => by
    rw [all3005] at ho hok
    simp at hok
    subst hok
    obtain ⟨g, cap, rfl⟩ := ownsRow_some ho (by simp)
    exact ⟨g, cap, he, hb⟩

theorem own_cell {w : World} {B e n : Nat} {g cap : Nat} {xs : List Value} (h : w.ownsRow B e 1 (.slice (some ⟨g, 0, none⟩) n cap) n xs) {j : Nat} {u : Value} (hj : xs[j]? = some u) : w.cell? ⟨g, j, none⟩ = some u := by
  have := h.cells (g := g) rfl j u hj
  rw [WideShapes.add_plain] at this
  simpa using this

set_option maxRecDepth 100000 in
set_option maxHeartbeats 2000000 in
theorem awake_any (w : World) : Calls Try.prog 9 #[] w fun e w' => e = .returned (.bool true) ∧ Below w.heap.size w w' := by
  obtain ⟨i0, hi, hz0, hz1, hz2⟩ := info_parts info5
  go_enter Try.func9, Try.ntmps9
  go_wp2_with fail
  refine (put300_any w).mono ?_
  rintro e w1 ⟨g, cap, rfl, H1, hb1⟩
  have r1 : RowIn .u8 w1 (some ⟨g, 0, none⟩) cap [172, 2] := row3_of (B := w.heap.size) (e := 5) (n := 2) H1.out (by decide)
  have R1 := Lib.hid r1
  clear r1
  go_wp2_with fail
  refine (getIs_of get300 (get_any _ 2 cap 0 _ _ rfl R1.out)).mono ?_
  rintro e w1' ⟨rfl, rfl⟩
  go_wp2_with fail
  refine (getIs_of get1280 (get_any _ 2 2 0 _ _ rfl (two_row w1 128 0 .u8 5 (by decide) (by decide)))).mono ?_
  rintro e w1' ⟨rfl, rfl⟩
  have hs1 := hb1.size
  have HB1 := Lib.hid hb1
  go_wp2_with (at_builtin; refine wpList_append_keep _ rfl _ _ 22 rfl w.heap.size 5 i0 (.int .u8 0) 1 Try.underlying22 hi hz0 hz1 hz2 rfl g 2 cap [.int .u8 172, .int .u8 2] rfl ((H1.out.alloc _).alloc _) ⟨w1.heap.size + 1, 0, none⟩ 1 1 [.int .u8 5] rfl rfl (by simpa using cell_one_new (w1.alloc (.cells #[.int .u8 128, .int .u8 0] 5)) (.int .u8 5) 5) (by simp [Value.oneCell']) (by unfold maxLen; omega) (by omega) (by simp; omega) ?_; intro v' w2 hown2 hkeep2 hgrow2)
  obtain ⟨g2, cap2, rfl⟩ := ownsRow_some hown2 (by simp)
  have R2 : Hid (RowIn .u8 w2 (some ⟨g2, 0, none⟩) cap2 [172, 2, 5]) := row3_of (B := w.heap.size) (e := 5) (n := 3) (by simpa using hown2) (by decide)
  have hb2 : Below w.heap.size w w2 := ((HB1.out.alloc hs1 _).alloc (by simp; omega) _).grown hgrow2 (by simp; omega) (fun k ek => by cases ek; have := (H1.out.lt _ rfl).1; omega)
  have hs2 := hb2.size
  have HB2 := Lib.hid hb2
  have HK2 := Lib.hid hkeep2
  clear hgrow2 hkeep2 hown2 hb1
  refine (read3_any _ _ _ R2.out).mono ?_
  rintro e w3 ⟨g3, cap3, rfl, H3, hb3⟩
  have HK3 : Hid _ := Lib.hid (ownsRow_below HK2.out hb3)
  have HB3 : Hid _ := Lib.hid (HB2.out.trans (hb3.mono hs2))
  clear hb3 hb2
  go_wp2_with fail
  refine (all2_any _ _ _ (two_row w3 300 5 .i64 3 (by decide) (by decide))).mono ?_
  rintro e w4 ⟨g4, cap4, rfl, hb4⟩
  have k1 := ownsRow_below (HK3.out.alloc (.cells #[.int .i64 300, .int .i64 5] 3)) hb4
  have k3 := ownsRow_below (H3.out.alloc (.cells #[.int .i64 300, .int .i64 5] 3)) hb4
  have c0 := own_cell k1 (j := 0) rfl
  have c1 := own_cell k1 (j := 1) rfl
  have d1 := own_cell k3 (j := 1) rfl
  have hbe : Hid (Below w.heap.size w w4) := Lib.hid ((HB3.out.alloc HB3.out.size _).trans (hb4.mono (by have := HB3.out.size; simp; omega)))
  clear k1 k3 hb4
  go_wp2
  go_ret
  exact ⟨rfl, hbe.out⟩
end Go.Proofs.Ythedkcbkalifgaa
