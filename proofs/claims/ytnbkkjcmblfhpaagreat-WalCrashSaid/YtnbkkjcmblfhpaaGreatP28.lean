import Derived.Test.YtnbkkjcmblfhpaaGreatP26
import Derived.Test.YtnbkkjcmblfhpaaGreatP12
import Derived.Test.YtnbkkjcmblfhpaaGreatP15
import Derived.Test.YtnbkkjcmblfhpaaGreatP27
import Derived.Test.YtnbkkjcmblfhpaaGreatP25
namespace Go.Proofs.YtnbkkjcmblfhpaaGreat
set_option maxHeartbeats 400000
set_option maxRecDepth 100000
open Go.RowKit
def N.NumsIs (w : World) (l : List Int) (x : Ending) (w' : World) : Prop := ∃ g c, x = .returned (.slice (some ⟨g, 0, none⟩) l.length c) /\ Hid (zfv .i64 w' (some ⟨g, 0, none⟩) c l) /\ Below w.heap.size w w'
theorem N.nums_is {w w' : World} {g : Nat} {l : List Int} {t : TypeId} (hk : Blok w' g t (l.map (Value.int .i64)).toArray) (hn : ∀ n ∈ l, M.isn n) (hl : l.length <= 4) (hb : Below w.heap.size w w') : N.NumsIs w l (.returned (.slice (some ⟨g, 0, none⟩) l.length l.length)) w' :=
 ⟨g, l.length, rfl, Zh (hk.row (fun n h => zqj (hn n h)) (Nat.le_refl _) (by unfold maxLen; omega)), hb⟩
theorem zt5 {w w1 : World} (h : Below w.heap.size w w1) (o : Obj) : Below w.heap.size w (w1.alloc o) := h.alloc h.size o
theorem zxs (t a b c q i z : Int) (pr : Bool) (he : N.May ⟨0, t, a, b, c, ⟨q, i, z, pr⟩⟩) (w : World) :
  Calls Tryz.prog 101 #[.agg #[.int .i64 0, .int .i64 t, .int .i64 a, .int .i64 b, .int .i64 c, .int .i64 q, .int .i64 i, .int .i64 z, .bool pr]] w (N.NumsIs w (N.nums ⟨0, t, a, b, c, ⟨q, i, z, pr⟩⟩)) := by
 obtain ⟨w1, hw1, hb, hk⟩ := Zn w 70 #[.int .i64 0, .int .i64 t, .int .i64 a, .int .i64 b, .int .i64 c, .int .i64 q, .int .i64 i, .int .i64 z, .bool pr]
 have HB1 := Zh hb
 have hs : w1.heap.size = w.heap.size + 1 := by rw [<- hw1]; simp
 have c0 := Zv hk 0 (.int .i64 0)
 have c2 := Zv hk 2 (.int .i64 a)
 have c3 := Zv hk 3 (.int .i64 b)
 have c4 := Zv hk 4 (.int .i64 c)
 have HN := Zh (N.nums_isn he)
 have hm := he.2
 simp only at hm
 have HQ : Hid (N.nums ⟨0, t, a, b, c, ⟨q, i, z, pr⟩⟩ = [a * 32 + b * 8 + c]) := Zh (by rw [N.nums01 (by simp)]; simp only [List.cons.injEq, and_true]; omega)
 rw [HQ.out] at HN ⊢
 have x1 : wrap64 (a * 32) = a * 32 := IntWalk.wrap64_in _ ⟨by omega, by omega⟩
 have x2 : wrap64 (b * 8) = b * 8 := IntWalk.wrap64_in _ ⟨by omega, by omega⟩
 have x3 : wrap64 (a * 32 + b * 8) = a * 32 + b * 8 := IntWalk.wrap64_in _ ⟨by omega, by omega⟩
 have x4 : wrap64 (a * 32 + b * 8 + c) = a * 32 + b * 8 + c := IntWalk.wrap64_in _ ⟨by omega, by omega⟩
 clear hb he hm
 go_enter Tryz.func101, Tryz.ntmps101
 go_wp2_with fail
 go_ret
 have hh := N.nums_is (w := w) (Blok.new w1 3 #[.int .i64 (a * 32 + b * 8 + c)]) HN.out (by simp) (zt5 HB1.out _)
 rw [hs] at hh
 exact hh
theorem zxt (t a b c q i z : Int) (pr : Bool) (he : N.May ⟨1, t, a, b, c, ⟨q, i, z, pr⟩⟩) (w : World) :
  Calls Tryz.prog 101 #[.agg #[.int .i64 1, .int .i64 t, .int .i64 a, .int .i64 b, .int .i64 c, .int .i64 q, .int .i64 i, .int .i64 z, .bool pr]] w (N.NumsIs w (N.nums ⟨1, t, a, b, c, ⟨q, i, z, pr⟩⟩)) := by
 obtain ⟨w1, hw1, hb, hk⟩ := Zn w 70 #[.int .i64 1, .int .i64 t, .int .i64 a, .int .i64 b, .int .i64 c, .int .i64 q, .int .i64 i, .int .i64 z, .bool pr]
 have HB1 := Zh hb
 have hs : w1.heap.size = w.heap.size + 1 := by rw [<- hw1]; simp
 have c0 := Zv hk 0 (.int .i64 1)
 have c2 := Zv hk 2 (.int .i64 a)
 have c3 := Zv hk 3 (.int .i64 b)
 have c4 := Zv hk 4 (.int .i64 c)
 have HN := Zh (N.nums_isn he)
 have hm := he.2
 simp only at hm
 have HQ : Hid (N.nums ⟨1, t, a, b, c, ⟨q, i, z, pr⟩⟩ = [a * 32 + b * 8 + c]) := Zh (by rw [N.nums01 (by simp)]; simp only [List.cons.injEq, and_true]; omega)
 rw [HQ.out] at HN ⊢
 have x1 : wrap64 (a * 32) = a * 32 := IntWalk.wrap64_in _ ⟨by omega, by omega⟩
 have x2 : wrap64 (b * 8) = b * 8 := IntWalk.wrap64_in _ ⟨by omega, by omega⟩
 have x3 : wrap64 (a * 32 + b * 8) = a * 32 + b * 8 := IntWalk.wrap64_in _ ⟨by omega, by omega⟩
 have x4 : wrap64 (a * 32 + b * 8 + c) = a * 32 + b * 8 + c := IntWalk.wrap64_in _ ⟨by omega, by omega⟩
 clear hb he hm
 go_enter Tryz.func101, Tryz.ntmps101
 go_wp2_with fail
 go_ret
 have hh := N.nums_is (w := w) (Blok.new w1 3 #[.int .i64 (a * 32 + b * 8 + c)]) HN.out (by simp) (zt5 HB1.out _)
 rw [hs] at hh
 exact hh
theorem zxu (t a b c q i z : Int) (pr : Bool) (he : N.May ⟨2, t, a, b, c, ⟨q, i, z, pr⟩⟩) (w : World) :
  Calls Tryz.prog 101 #[.agg #[.int .i64 2, .int .i64 t, .int .i64 a, .int .i64 b, .int .i64 c, .int .i64 q, .int .i64 i, .int .i64 z, .bool pr]] w (N.NumsIs w (N.nums ⟨2, t, a, b, c, ⟨q, i, z, pr⟩⟩)) := by
 obtain ⟨w1, hw1, hb, hk⟩ := Zn w 70 #[.int .i64 2, .int .i64 t, .int .i64 a, .int .i64 b, .int .i64 c, .int .i64 q, .int .i64 i, .int .i64 z, .bool pr]
 have HB1 := Zh hb
 have hs : w1.heap.size = w.heap.size + 1 := by rw [<- hw1]; simp
 have c0 := Zv hk 0 (.int .i64 2)
 have c2 := Zv hk 2 (.int .i64 a)
 have c3 := Zv hk 3 (.int .i64 b)
 have HN := Zh (N.nums_isn he)
 have hm := he.2
 simp only at hm
 have HQ : Hid (N.nums ⟨2, t, a, b, c, ⟨q, i, z, pr⟩⟩ = [a * 8 + b]) := Zh (by rw [N.nums24 (by simp)]; simp only [List.cons.injEq, and_true]; omega)
 rw [HQ.out] at HN ⊢
 have x1 : wrap64 (a * 8) = a * 8 := IntWalk.wrap64_in _ ⟨by omega, by omega⟩
 have x3 : wrap64 (a * 8 + b) = a * 8 + b := IntWalk.wrap64_in _ ⟨by omega, by omega⟩
 clear hb he hm
 go_enter Tryz.func101, Tryz.ntmps101
 go_wp2_with fail
 go_ret
 have hh := N.nums_is (w := w) (Blok.new w1 3 #[.int .i64 (a * 8 + b)]) HN.out (by simp) (zt5 HB1.out _)
 rw [hs] at hh
 exact hh
theorem zxv (t a b c q i z : Int) (pr : Bool) (he : N.May ⟨4, t, a, b, c, ⟨q, i, z, pr⟩⟩) (w : World) :
  Calls Tryz.prog 101 #[.agg #[.int .i64 4, .int .i64 t, .int .i64 a, .int .i64 b, .int .i64 c, .int .i64 q, .int .i64 i, .int .i64 z, .bool pr]] w (N.NumsIs w (N.nums ⟨4, t, a, b, c, ⟨q, i, z, pr⟩⟩)) := by
 obtain ⟨w1, hw1, hb, hk⟩ := Zn w 70 #[.int .i64 4, .int .i64 t, .int .i64 a, .int .i64 b, .int .i64 c, .int .i64 q, .int .i64 i, .int .i64 z, .bool pr]
 have HB1 := Zh hb
 have hs : w1.heap.size = w.heap.size + 1 := by rw [<- hw1]; simp
 have c0 := Zv hk 0 (.int .i64 4)
 have c2 := Zv hk 2 (.int .i64 a)
 have c3 := Zv hk 3 (.int .i64 b)
 have HN := Zh (N.nums_isn he)
 have hm := he.2
 simp only at hm
 have HQ : Hid (N.nums ⟨4, t, a, b, c, ⟨q, i, z, pr⟩⟩ = [a * 8 + b]) := Zh (by rw [N.nums24 (by simp)]; simp only [List.cons.injEq, and_true]; omega)
 rw [HQ.out] at HN ⊢
 have x1 : wrap64 (a * 8) = a * 8 := IntWalk.wrap64_in _ ⟨by omega, by omega⟩
 have x3 : wrap64 (a * 8 + b) = a * 8 + b := IntWalk.wrap64_in _ ⟨by omega, by omega⟩
 clear hb he hm
 go_enter Tryz.func101, Tryz.ntmps101
 go_wp2_with fail
 go_ret
 have hh := N.nums_is (w := w) (Blok.new w1 3 #[.int .i64 (a * 8 + b)]) HN.out (by simp) (zt5 HB1.out _)
 rw [hs] at hh
 exact hh
theorem zxw (t a b c q i z : Int) (pr : Bool) (he : N.May ⟨3, t, a, b, c, ⟨q, i, z, pr⟩⟩) (w : World) :
  Calls Tryz.prog 101 #[.agg #[.int .i64 3, .int .i64 t, .int .i64 a, .int .i64 b, .int .i64 c, .int .i64 q, .int .i64 i, .int .i64 z, .bool pr]] w (N.NumsIs w (N.nums ⟨3, t, a, b, c, ⟨q, i, z, pr⟩⟩)) := by
 obtain ⟨w1, hw1, hb, hk⟩ := Zn w 70 #[.int .i64 3, .int .i64 t, .int .i64 a, .int .i64 b, .int .i64 c, .int .i64 q, .int .i64 i, .int .i64 z, .bool pr]
 have HB1 := Zh hb
 have hs : w1.heap.size = w.heap.size + 1 := by rw [<- hw1]; simp
 have c0 := Zv hk 0 (.int .i64 3)
 have c2 := Zv hk 2 (.int .i64 a)
 have HN := Zh (N.nums_isn he)
 have hm := he.2
 simp only at hm
 have HQ : Hid (N.nums ⟨3, t, a, b, c, ⟨q, i, z, pr⟩⟩ = [a]) := Zh (by rw [N.nums35 (by simp)])
 rw [HQ.out] at HN ⊢
 clear hb he hm
 go_enter Tryz.func101, Tryz.ntmps101
 go_wp2_with fail
 go_ret
 have hh := N.nums_is (w := w) (Blok.new w1 3 #[.int .i64 a]) HN.out (by simp) (zt5 HB1.out _)
 rw [hs] at hh
 exact hh
theorem zxx (t a b c q i z : Int) (pr : Bool) (he : N.May ⟨5, t, a, b, c, ⟨q, i, z, pr⟩⟩) (w : World) :
  Calls Tryz.prog 101 #[.agg #[.int .i64 5, .int .i64 t, .int .i64 a, .int .i64 b, .int .i64 c, .int .i64 q, .int .i64 i, .int .i64 z, .bool pr]] w (N.NumsIs w (N.nums ⟨5, t, a, b, c, ⟨q, i, z, pr⟩⟩)) := by
 obtain ⟨w1, hw1, hb, hk⟩ := Zn w 70 #[.int .i64 5, .int .i64 t, .int .i64 a, .int .i64 b, .int .i64 c, .int .i64 q, .int .i64 i, .int .i64 z, .bool pr]
 have HB1 := Zh hb
 have hs : w1.heap.size = w.heap.size + 1 := by rw [<- hw1]; simp
 have c0 := Zv hk 0 (.int .i64 5)
 have c2 := Zv hk 2 (.int .i64 a)
 have HN := Zh (N.nums_isn he)
 have hm := he.2
 simp only at hm
 have HQ : Hid (N.nums ⟨5, t, a, b, c, ⟨q, i, z, pr⟩⟩ = [a]) := Zh (by rw [N.nums35 (by simp)])
 rw [HQ.out] at HN ⊢
 clear hb he hm
 go_enter Tryz.func101, Tryz.ntmps101
 go_wp2_with fail
 go_ret
 have hh := N.nums_is (w := w) (Blok.new w1 3 #[.int .i64 a]) HN.out (by simp) (zt5 HB1.out _)
 rw [hs] at hh
 exact hh
theorem zxy (t a b c q i z : Int) (pr : Bool) (he : N.May ⟨6, t, a, b, c, ⟨q, i, z, pr⟩⟩) (w : World) :
  Calls Tryz.prog 101 #[.agg #[.int .i64 6, .int .i64 t, .int .i64 a, .int .i64 b, .int .i64 c, .int .i64 q, .int .i64 i, .int .i64 z, .bool pr]] w (N.NumsIs w (N.nums ⟨6, t, a, b, c, ⟨q, i, z, pr⟩⟩)) := by
 obtain ⟨w1, hw1, hb, hk⟩ := Zn w 70 #[.int .i64 6, .int .i64 t, .int .i64 a, .int .i64 b, .int .i64 c, .int .i64 q, .int .i64 i, .int .i64 z, .bool pr]
 have HB1 := Zh hb
 have hs : w1.heap.size = w.heap.size + 1 := by rw [<- hw1]; simp
 have c0 := Zv hk 0 (.int .i64 6)
 have c5 := Zv hk 5 (.int .i64 q)
 have c6 := Zv hk 6 (.int .i64 i)
 have c7 := Zv hk 7 (.int .i64 z)
 have c8 := Zv hk 8 (.bool pr)
 have HN := Zh (N.nums_isn he)
 have hm := he.2
 simp only at hm
 have HQ : Hid (N.nums ⟨6, t, a, b, c, ⟨q, i, z, pr⟩⟩ = [q, i, z, if pr = true then 1 else 0]) := Zh (by rw [N.nums6 rfl])
 rw [HQ.out] at HN ⊢
 obtain ⟨w2, hw2, hb2, hk2⟩ := Zn w1 218 #[.int .i64 q, .int .i64 i, .int .i64 z, .int .i64 0]
 rw [hs] at hk2
 have HB2 := Zt HB1 hb2
 have KN2 := Zh hk2
 have f8 := Zv (hk.below hb2 hk.lt) 8 (.bool pr)
 have p3 := Zv hk2 3 (.int .i64 0)
 have z3 := hk2.frozen 3
 clear hb hb2 hk2 he hm
 go_enter Tryz.func101, Tryz.ntmps101
 cases pr with
 | false =>
  go_wp2_with fail
  go_ret
  exact N.nums_is (l := [q, i, z, if false = true then 1 else 0]) (by simpa using KN2.out.set 3 (.int .i64 0)) HN.out (by simp) (HB2.out.setCell (by simp) _)
 | true =>
  go_wp2_with fail
  go_ret
  exact N.nums_is (l := [q, i, z, if true = true then 1 else 0]) (by simpa using (KN2.out.set 3 (.int .i64 0)).set 3 (.int .i64 1)) HN.out (by simp) ((HB2.out.setCell (by simp) _).setCell (by simp) _)
theorem zwf (e : Y.Ev) (he : N.May e) (w : World) : Calls Tryz.prog 101 #[.agg (N.ecs e)] w (N.NumsIs w (N.nums e)) := by
 have hk := he.kind
 obtain ⟨k, t, a, b, c, ⟨q, i, z, pr⟩⟩ := e
 simp only at hk
 have h7 : k = 0 \/ k = 1 \/ k = 2 \/ k = 3 \/ k = 4 \/ k = 5 \/ k = 6 := by omega
 rcases h7 with rfl | rfl | rfl | rfl | rfl | rfl | rfl
 ·exact zxs t a b c q i z pr he w
 ·exact zxt t a b c q i z pr he w
 ·exact zxu t a b c q i z pr he w
 ·exact zxw t a b c q i z pr he w
 ·exact zxv t a b c q i z pr he w
 ·exact zxx t a b c q i z pr he w
 ·exact zxy t a b c q i z pr he w
end Go.Proofs.YtnbkkjcmblfhpaaGreat
namespace Go.Proofs.YtnbkkjcmblfhpaaGreat
set_option maxHeartbeats 400000
set_option maxRecDepth 100000
open Go.RowKit
def N.PutIsZ (at' : Int) (l : List Y.Ev) (w : World) (e : Ending) (w' : World) : Prop :=
 ∃ a' cap' n', e = .returned (.tuple #[.slice a' n' cap', .bool (N.put at' l).isSome]) /\ Hid (((N.put at' l).getD []).length = n') /\ Hid (zfv .u8 w' a' cap' ((N.put at' l).getD [])) /\ (a' = none -> n' = 0 /\ cap' = 0) /\ Below w.heap.size w w'
theorem N.PutIsZ.no {t : Int} {l : List Y.Ev} {w w' : World} (h : N.put t l = none) (hb : Below w.heap.size w w') : N.PutIsZ t l w (.returned (.tuple #[.slice none 0 0, .bool false])) w' :=
 ⟨none, 0, 0, by rw [h]; rfl, Zh (by rw [h]; rfl), Zh (by rw [h]; exact ⟨by simp [maxLen], by simp, .inl rfl⟩), fun _ => ⟨rfl, rfl⟩, hb⟩
theorem N.row_cells {k : IntKind} {w : World} {ad : Addr} {cap : Nat} {L : List Int} (h : zfv k w (some ad) cap L) : ∀ j u, (L.map (Value.int k))[j]? = some u -> w.cell? (ad.add j) = some u := by
 intro j u hj
 rcases h.2.2 with rfl | ⟨b, off, he, _, hc⟩
 ·simp at hj
 ·cases he
  rw [List.getElem?_map] at hj
  obtain ⟨n, hn, rfl⟩ := Option.map_eq_some_iff.1 hj
  obtain ⟨hl, hn'⟩ := List.getElem?_eq_some_iff.1 hn
  rw [WideShapes.add_plain, hc j hl]
  simp [hl, hn']
theorem N.take_ok {l : List Y.Ev} {i : Nat} {x : Y.Ev} (hx : l[i]? = some x) : l.take (i + 1) = l.take i ++ [x] := by
 obtain ⟨h0, h1⟩ := List.getElem?_eq_some_iff.1 hx
 rw [List.take_succ_eq_append_getElem h0, h1]
theorem N.ok_take {t : Int} {l : List Y.Ev} (h : N.ok t l) (i : Nat) : N.ok t (l.take i) := by
 have := h
 rw [<- List.take_append_drop i l, N.ok_append] at this
 exact this.1
theorem N.bad_at {t : Int} {l : List Y.Ev} {i : Nat} {x : Y.Ev} (hx : l[i]? = some x) (h : ¬ (N.May x /\ N.last t (l.take i) <= x.t)) : N.put t l = none := by
 unfold N.put
 refine if_neg fun hh => h ?_
 have := N.ok_take hh.2 (i + 1)
 rw [N.take_ok hx, N.ok_append] at this
 exact ⟨this.2.1, this.2.2.1⟩
theorem zxb (t : Int) (a : Option Addr) (n c : Nat) (l : List Y.Ev) (w : World) (h : VIn w a n c l) (hn : n * 72 <= 140737488351232) :
  Calls Tryz.prog 50 #[.int .i64 t, .slice a n c] w (N.PutIsZ t l w) := by
 obtain ⟨i0, hi, hz0, hz1, hz2⟩ := info_parts zl3
 have HT := Zh h
 clear h
 go_enter Tryz.func50, Tryz.ntmps50
 obtain ⟨tk, htk⟩ : ∃ z, decide (N.tick t) = z := ⟨_, rfl⟩
 go_wp2_with fail
 refine (zq9 t tk htk w).mono ?_
 rintro x w2 ⟨rfl, rfl⟩
 cases tk with
 | false =>
  have HE : Hid (N.put t l = none) := Zh (if_neg fun hh => of_decide_eq_false htk hh.1)
  go_wp2_with fail
  go_ret2
  exact .no HE.out (Below.refl _ _)
 | true =>
 have ht := of_decide_eq_true htk
 have HK := Zh ht
 clear htk ht
 go_wp2_with fail
 go_loopw [0, 6, 14] (fun t1 v i wr => ∃ (k : Nat) (a1 : Option Addr) (c1 m : Nat) (u : Int), t1 = .int .i64 u /\ v = .slice a1 m c1 /\ i = .int .i64 k /\ k <= n /\ m <= 5 * k /\ Hid (u = N.last t (l.take k)) /\ Hid (N.ok t (l.take k)) /\ Hid (wr.ownsRow w2.heap.size 3 1 (.slice a1 m c1) m ((N.flat t (l.take k)).map (Value.int .i64))) /\ Hid (Below w2.heap.size w2 wr)) (fun _ _ i _ => n - (intOf i).toNat)
 case atStart => exact ⟨0, none, 0, 0, t, rfl, rfl, rfl, by omega, by omega, Zh rfl, Zh trivial, Zh (World.ownsRow_nil _ _ _ _), Zh (Below.refl _ _)⟩
 case round =>
  obtain ⟨i, a1, c1, m, u, rfl, rfl, rfl, hin, hm5, HU, HO, HR, HB⟩ := hrel
  by_cases hlt : i < n
  ·have d1 : decide ((i : Int) < n) = true := by simp; omega
   obtain ⟨b, off, x, rfl, hb, hx, pc⟩ := (HT.out.below HB.out).at hlt
   have k0 : (0 : Int) <= i := by omega
   have k1 : (i : Int) < n := by omega
   have HX := Zh hx
   have hsz := HB.out.size
   clear hx
   obtain ⟨xk, xt, xa, xb, xc, ⟨xq, xi, xh, xp⟩⟩ := x
   have p0 : wr.cell? ⟨b, off + i * 9, none⟩ = some (.int .i64 xk) := pc 0 _ rfl
   have p1 : wr.cell? ⟨b, off + i * 9 + 1, none⟩ = some (.int .i64 xt) := pc 1 _ rfl
   have p2 : wr.cell? ⟨b, off + i * 9 + 2, none⟩ = some (.int .i64 xa) := pc 2 _ rfl
   have p3 : wr.cell? ⟨b, off + i * 9 + 3, none⟩ = some (.int .i64 xb) := pc 3 _ rfl
   have p4 : wr.cell? ⟨b, off + i * 9 + 4, none⟩ = some (.int .i64 xc) := pc 4 _ rfl
   have p5 : wr.cell? ⟨b, off + i * 9 + 5, none⟩ = some (.int .i64 xq) := pc 5 _ rfl
   have p6 : wr.cell? ⟨b, off + i * 9 + 6, none⟩ = some (.int .i64 xi) := pc 6 _ rfl
   have p7 : wr.cell? ⟨b, off + i * 9 + 7, none⟩ = some (.int .i64 xh) := pc 7 _ rfl
   have p8 : wr.cell? ⟨b, off + i * 9 + 8, none⟩ = some (.bool xp) := pc 8 _ rfl
   clear pc
   obtain ⟨w3, hw3, hb3, hk3⟩ := Zn wr 70 #[.int .i64 xk, .int .i64 xt, .int .i64 xa, .int .i64 xb, .int .i64 xc, .int .i64 xq, .int .i64 xi, .int .i64 xh, .bool xp]
   have HB3 := Zt HB hb3
   have HR3 := Zh (zab HR.out hb3)
   have KE3 := Zh hk3
   have c0 := Zv hk3 0 (.int .i64 xk)
   have c1' := Zv hk3 1 (.int .i64 xt)
   have c2' := Zv hk3 2 (.int .i64 xa)
   have c3' := Zv hk3 3 (.int .i64 xb)
   have c4' := Zv hk3 4 (.int .i64 xc)
   have c5' := Zv hk3 5 (.int .i64 xq)
   have c6' := Zv hk3 6 (.int .i64 xi)
   have c7' := Zv hk3 7 (.int .i64 xh)
   have c8' := Zv hk3 8 (.bool xp)
   clear hb3 hk3
   obtain ⟨mv, hmv⟩ : ∃ z, decide (N.May ⟨xk, xt, xa, xb, xc, ⟨xq, xi, xh, xp⟩⟩) = z := ⟨_, rfl⟩
   go_wp2_with fail
   refine (zob ⟨xk, xt, xa, xb, xc, ⟨xq, xi, xh, xp⟩⟩ mv hmv w3).mono ?_
   rintro e w4 ⟨rfl, hb4⟩
   have HB4 := Zt HB3 hb4
   have HR4 := Zh (zab HR3.out hb4)
   have KE4 := Zk KE3 hb4
   clear hb4 c0 c1' c2' c3' c4' c5' c6' c7' c8' p0 p1 p2 p3 p4 p5 p6 p7 p8 hw3
   cases mv with
   | false =>
    have HE : Hid (N.put t l = none) := Zh (N.bad_at HX.out fun hh => of_decide_eq_false hmv hh.1)
    go_wp2_with fail
    go_ret2
    exact .no HE.out HB4.out
   | true =>
   have c1' := Zv KE4.out 1 (.int .i64 xt)
   by_cases hlt2 : xt < u
   ·have d2 : decide (xt < u) = true := decide_eq_true hlt2
    have HE : Hid (N.put t l = none) := Zh (N.bad_at HX.out fun hh => by have := hh.2; rw [<- HU.out] at this; simp only at this; omega)
    go_wp2_with fail
    go_ret2
    exact .no HE.out HB4.out
   ·have d2 : decide (xt < u) = false := decide_eq_false hlt2
    have HM := Zh (of_decide_eq_true hmv)
    have hM1 := HM.out.1
    have hM2 := HM.out.kind
    have hM3 := N.last_tick _ _ HK.out HO.out
    rw [<- HU.out] at hM3
    unfold N.tick at hM3
    simp only at hM1 hM2
    have z1 : wrap64 (xt - u) = xt - u := IntWalk.wrap64_in _ ⟨by omega, by omega⟩
    have z2 : wrap64 ((xt - u) * 16) = (xt - u) * 16 := IntWalk.wrap64_in _ ⟨by omega, by omega⟩
    have z3 : wrap64 ((xt - u) * 16 + xk) = (xt - u) * 16 + xk := IntWalk.wrap64_in _ ⟨by omega, by omega⟩
    have c0' := Zv KE4.out 0 (.int .i64 xk)
    have hsz4 := HB4.out.size
    go_wp2_with (at_builtin; refine wpList_append_lies _ rfl _ _ 74 rfl w2.heap.size 3 i0 (.int .i64 0) 1 8 Tryz.underlying74 hi hz0 hz1 hz2 rfl (by decide) _ _ _ rfl (HR4.out.alloc _) ⟨w4.heap.size, 0, none⟩ 1 1 [.int .i64 ((xt - u) * 16 + xk)] rfl rfl (cell_one_new _ _ _) (by simp [Value.oneCell']) (by decide) (by unfold maxLen; omega) (by omega) (by simp; omega) _ rfl ?_; intro g2 cap2 w5 hown' hgrow hg2 _; have KE5 := Zh ((KE4.out.alloc (.cells #[.int .i64 ((xt - u) * 16 + xk)] 3)).grown hgrow (fun e => by have := (HR.out.lt _ e.symm).2; omega)); have HB5 := Zh (zng HR4.out (by omega) HB4.out hgrow); have HR5 := Zh hown'; clear hown' hgrow; have e0 := Zv KE5.out 0 (.int .i64 xk); have e1 := Zv KE5.out 1 (.int .i64 xt); have e2 := Zv KE5.out 2 (.int .i64 xa); have e3 := Zv KE5.out 3 (.int .i64 xb); have e4 := Zv KE5.out 4 (.int .i64 xc); have e5 := Zv KE5.out 5 (.int .i64 xq); have e6 := Zv KE5.out 6 (.int .i64 xi); have e7 := Zv KE5.out 7 (.int .i64 xh); have e8 := Zv KE5.out 8 (.bool xp))
    refine (zwf ⟨xk, xt, xa, xb, xc, ⟨xq, xi, xh, xp⟩⟩ HM.out w5).mono ?_
    rintro e w6 ⟨g6, c6, rfl, hr6, hb6⟩
    have HB6 := Zt HB5 hb6
    have HR6 := Zh (zab HR5.out hb6)
    have KE6 := Zk KE5 hb6
    have hsz6 := HB6.out.size
    have hln := N.nums_len ⟨xk, xt, xa, xb, xc, ⟨xq, xi, xh, xp⟩⟩
    clear hb6 e0 e1 e2 e3 e4 e5 e6 e7 e8 c0' c1'
    go_wp2_with (at_builtin; refine wpList_append_own _ rfl _ _ 74 rfl w2.heap.size 3 i0 (.int .i64 0) 1 8 Tryz.underlying74 hi hz0 hz1 hz2 rfl (by decide) _ _ _ rfl HR6.out ⟨g6, 0, none⟩ (N.nums ⟨xk, xt, xa, xb, xc, ⟨xq, xi, xh, xp⟩⟩).length c6 ((N.nums ⟨xk, xt, xa, xb, xc, ⟨xq, xi, xh, xp⟩⟩).map (Value.int .i64)) rfl (by simp) (N.row_cells hr6.out) (zoh _ _) (by unfold maxLen; omega) (by omega) (by omega) ?_; intro v' w7 hown7 hgrow7 _; obtain ⟨a7, cap7, rfl⟩ := zm9 hown7; have KE7 := Zh (KE6.out.grown hgrow7 (fun e => by have e' : wr.heap.size = g2 := Option.some.inj e; rcases hg2 with hg | hg; have := (HR.out.lt _ hg).2; omega; have hg' := hg.symm.symm.trans (show (World.alloc w4 _).heap.size = w4.heap.size + 1 by simp); have := KE4.out.lt; omega)); have HB7 := Zh (znq HR6.out (by omega) HB6.out hgrow7); have HR7 := Zh hown7; clear hown7 hgrow7; have e1 := Zv KE7.out 1 (.int .i64 xt))
    go_roundw
    case rel => exact ⟨i + 1, a7, cap7, m + 1 + (N.nums ⟨xk, xt, xa, xb, xc, ⟨xq, xi, xh, xp⟩⟩).length, xt, rfl, rfl, by go_num, by omega, by omega, Zh (by rw [N.take_ok HX.out, N.last_append]; rfl), Zh (by rw [N.take_ok HX.out, N.ok_append]; exact ⟨HO.out, HM.out, by rw [<- HU.out]; simp only; omega, trivial⟩), Zh (by
     have := HR7.out
     rw [N.take_ok HX.out, N.flat_append, <- HU.out]
     simpa [N.flat, Int.mul_comm] using this), HB7⟩
    case measure => simp [intOf]; omega
  ·have hd : decide ((i : Int) < n) = false := by simp; omega
   have HL : Hid (l.take i = l) := Zh (List.take_of_length_le (by rw [HT.out.1]; omega))
   rw [HL.out] at HO HR
   have HF := Zh (N.flat_isn l t HK.out HO.out)
   obtain ⟨a2, c2, hv, hm, hr⟩ := zex HR.out (fun x hx => zqj (HF.out x hx))
   injection hv with hv1 hv2 hv3
   subst hv1 hv3 hm
   have HS := Zh hr
   have HP : Hid (N.put t l = M.all (N.flat t l)) := Zh (if_pos ⟨HK.out, HO.out⟩)
   clear hr
   go_wp2_with fail
   refine (zwc a1 (N.flat t l).length c1 (N.flat t l) wr rfl HS.out).mono ?_
   rintro e w3 ⟨a2, c2, n2, rfl, h1, h2, hzn, hb⟩
   have HB3 := Zt HB hb
   clear hb
   go_wp2_with fail
   go_ret2
   unfold N.PutIsZ
   rw [HP.out]
   exact ⟨a2, c2, n2, rfl, h1, h2, hzn, HB3.out⟩
end Go.Proofs.YtnbkkjcmblfhpaaGreat
namespace Go.Proofs.YtnbkkjcmblfhpaaGreat
set_option maxHeartbeats 1000000
set_option maxRecDepth 100000
open Go.RowKit
theorem zxz (t : Int) (l : List Y.Ev) (pb : List Int) (ev : Bool) (a : Option Addr) (n c : Nat) (h1 : (N.put t l).getD [] = pb) (h2 : (N.put t l).isSome = ev) (w : World) (h : VIn w a n c l) (hn : n * 72 <= 140737488351232) :
  Calls Tryz.prog 50 #[.int .i64 t, .slice a n c] w fun e w' => ∃ b m d, e = .returned (.tuple #[.slice b m d, .bool ev]) /\ Hid (pb.length = m) /\ Hid (zfv .u8 w' b d pb) /\ Hid (b = none -> m = 0 /\ d = 0) /\ Below w.heap.size w w' := by
 subst h1 h2
 exact (zxb t a n c l w h hn).mono fun _ _ ⟨b, d, m, he, k1, k2, k3, hb⟩ => ⟨b, m, d, he, k1, k2, Zh k3, hb⟩
theorem zwg (k : Int) (B : List Int) (bb : List Int) (ov : Bool) (a : Option Addr) (n cap : Nat) (h1 : (R.put (k, B)).getD [] = bb) (h2 : (R.put (k, B)).isSome = ov) (w : World) (hl : B.length = n) (hr : zfv .u8 w a cap B) (hn : a = none -> n = 0 /\ cap = 0) :
  Calls Tryz.prog 39 #[.agg #[.int .i64 k, .slice a n cap]] w fun e w' => ∃ b m c, e = .returned (.tuple #[.slice b m c, .bool ov]) /\ Hid (bb.length = m) /\ Hid (zfv .u8 w' b c bb) /\ Hid (b = none -> m = 0 /\ c = 0) /\ Below w.heap.size w w' := by
 subst h1 h2
 exact (zvi k a n cap B w hl hr hn).mono fun _ _ ⟨b, d, m, he, k1, k2, k3, hb⟩ => ⟨b, m, d, he, k1, k2, k3, hb⟩
namespace G
theorem add_no {w : T} {l : List Y.Ev} (h : ¬ canAdd w l) : add w l = (w, 1) := by unfold add; rw [if_neg h]
theorem add_err {w : T} {l : List Y.Ev} {x : D.T} {er : Int} (h : canAdd w l) (hs : steps w.2.1 (recE w l) 1 w.1 = (x, er)) (he : er ≠ 0) : add w l = (w, er) := by
 unfold add; rw [if_pos h, hs]; simp only [if_neg he]
theorem add_ok {w : T} {l : List Y.Ev} {x : D.T} (h : canAdd w l) (hs : steps w.2.1 (recE w l) 1 w.1 = (x, 0)) : add w l = ((x, w.2.1, N.last w.2.2 l), 0) := by
 unfold add; rw [if_pos h, hs]; rfl
theorem put_isSome {r : R.T} (h : (R.put r).isSome = true) : R.ok r /\ (R.put r).getD [] = R.bytes r := by
 unfold R.put at h ⊢
 by_cases ho : R.ok r
 ·rw [if_pos ho]; exact ⟨ho, rfl⟩
 ·rw [if_neg ho] at h; cases h
theorem put_isNone {r : R.T} (h : (R.put r).isSome = false) : ¬ R.ok r := fun ho => by
 unfold R.put at h; rw [if_pos ho] at h; cases h
end G
theorem N.last_at {t : Int} : ∀ {l : List Y.Ev} {m : Nat} {x : Y.Ev}, l.length = m + 1 -> l[m]? = some x -> N.last t l = x.t := by
 intro l m x hl hx
 have h1 : l = l.take m ++ [x] := by rw [<- N.take_ok hx, List.take_of_length_le (by omega)]
 rw [h1, N.last_append]
 rfl
theorem G.add_any (k : Int) (a : Option Addr) (n c : Nat) (wn wt : Int) (xs : List FP) (al : Option Addr) (nl cl : Nat) (l : List Y.Ev) (w : World) (hd : zf0 w a n c xs) (hs : D.small (FP.files xs)) (hv : VIn w al nl cl l) (hn : nl * 72 <= 140737488351232) :
  Calls Tryz.prog 15 #[.agg #[.int .i64 k, .slice a n c, .int .i64 wn, .int .i64 wt], .slice al nl cl] w (G.RetX (G.add ((k, FP.files xs), wn, wt) l) w) := by
 have HB0 := Zh (Below.refl w.heap.size w)
 have HV0 := Zh (hv)
 have HD0 := Zh (hd)
 have HSM := Zh hs
 have HVN := Zh hn
 have HV00 : Hid (∀ x, al = some x -> x.block < w.heap.size \/ l = []) := Zh (fun x hx => by
  rcases HV0.out.2.2.2 with h1 | ⟨b, off, h1, h2, _⟩
  ·exact .inr h1
  ·rw [hx] at h1; simp only [Option.some.injEq] at h1; rw [h1]; exact .inl h2)
 clear hv hd hs hn
 obtain ⟨w1, hw1, hb, hk⟩ := Zn w 26 #[.int .i64 k, .slice a n c, .int .i64 wn, .int .i64 wt]
 have HV1 := Zh (HV0.out.below hb)
 have HD1 := Zh (HD0.out.below hb)
 have HB1 := Zt HB0 hb
 have KW1 := Zh hk
 clear hb hk HV0 HD0 HB0
 obtain ⟨w2, hw2, hb, hk⟩ := Zn w1 26 #[.int .i64 0, .slice none 0 0, .int .i64 0, .int .i64 0]
 have HV2 := Zh (HV1.out.below hb)
 have HD2 := Zh (HD1.out.below hb)
 have KW2 := Zk KW1 hb
 have HB2 := Zt HB1 hb
 have KR2 := Zh hk
 clear hb hk HV1 HD1 KW1 HB1
 have HS3 : Hid (w1.heap.size = w.heap.size + 1) := Zh (by rw [<- hw1]; simp)
 obtain ⟨pb, hpb⟩ : ∃ b, (N.put wt l).getD [] = b := ⟨_, rfl⟩
 obtain ⟨ev, hev⟩ : ∃ b, (N.put wt l).isSome = b := ⟨_, rfl⟩
 obtain ⟨bb, hbb⟩ : ∃ b, (R.put (2, pb)).getD [] = b := ⟨_, rfl⟩
 obtain ⟨ov, hov⟩ : ∃ b, (R.put (2, pb)).isSome = b := ⟨_, rfl⟩
 obtain ⟨mv, hmv⟩ : ∃ b, decide (G.may ((k, FP.files xs), wn, wt)) = b := ⟨_, rfl⟩
 have HPB := Zh hpb
 have HEV := Zh hev
 have HBB := Zh hbb
 have HOV := Zh hov
 have HMV := Zh hmv
 clear hpb hev hbb hov hmv
 obtain ⟨x0, x1, x2, x3⟩ := G.pk KW2.out
 go_enter Tryz.func15, Tryz.ntmps15
 go_wp2_with fail
 try rw [hw1]
 try rw [hw2]
 refine (zxz wt l pb ev al nl cl HPB.out HEV.out w2 HV2.out HVN.out).mono ?_
 rintro e w3 ⟨b1, m1, c1, rfl, hbl1, hrow, hbz1, hb⟩
 have HV3 := Zh (HV2.out.below hb)
 have HD3 := Zh (HD2.out.below hb)
 have KW3 := Zk KW2 hb
 have KR3 := Zk KR2 hb
 have HB3 := Zt HB2 hb
 clear hb HV2 HD2 KW2 KR2 HB2
 have HW3 := hrow
 clear hrow hw1 hw2 x0 x1 x2 x3
 go_wp2_with fail
 refine (zwg 2 pb bb ov b1 m1 c1 HBB.out HOV.out w3 hbl1.out HW3.out hbz1.out).mono ?_
 rintro e w4 ⟨b2, m2, c2, rfl, hbl, hrow, hbz2, hb⟩
 have HV4 := Zh (HV3.out.below hb)
 have HD4 := Zh (HD3.out.below hb)
 have KW4 := Zk KW3 hb
 have KR4 := Zk KR3 hb
 replace HW3 := Zh (HW3.out.below hb)
 have HB4 := Zt HB3 hb
 clear hb HV3 HD3 KW3 KR3 HB3
 have HX4 := hrow
 clear hrow
 clear HW3
 obtain ⟨x0, x1, x2, x3⟩ := G.pk KW4.out
 go_wp2_with fail
 refine (G.may_any k a n c wn wt xs mv w4 HD4.out HMV.out).mono ?_
 rintro e w5 ⟨rfl, hb⟩
 have HV5 := Zh (HV4.out.below hb)
 have HD5 := Zh (HD4.out.below hb)
 have KW5 := Zk KW4 hb
 have KR5 := Zk KR4 hb
 replace HX4 := Zh (HX4.out.below hb)
 have HB5 := Zt HB4 hb
 clear hb HV4 HD4 KW4 KR4 HB4
 clear x0 x1 x2 x3
 have HS9 : Hid (w.heap.size <= w1.heap.size) := Zh (by have := HS3.out; omega)
 cases mv with
 | false =>
  have HLE : Hid (w.heap.size <= w5.heap.size) := Zh HB5.out.size
  have HKL := Zh KR5.out.lt
  obtain ⟨x0, x1, x2, x3⟩ := G.pk KW5.out
  go_wp2_with fail
  refine (G.own_any k a n c wn wt xs w5 HD5.out HSM.out).mono ?_
  rintro e w6 ⟨a3, n3, c3, zs, rfl, HD3, HF3, HX3, hb⟩
  have HV6 := Zh (HV5.out.below hb)
  have HD6 := Zh (HD5.out.below hb)
  have KW6 := Zk KW5 hb
  have KR6 := Zk KR5 hb
  replace HX4 := Zh (HX4.out.below hb)
  have HB6 := Zt HB5 hb
  clear hb HV5 HD5 KW5 KR5 HB5
  have HDD6 := HD3
  clear x0 x1 x2 x3 HD3
  obtain ⟨w7, hp7⟩ : ∃ W, w6.setRow (w1.heap.size) #[.int .i64 k, .slice a3 n3 c3, .int .i64 wn, .int .i64 wt] = W := ⟨_, rfl⟩
  have hg7 : w6.grownBy w7 (some (w1.heap.size)) := by rw [<- hp7]; exact zbr _ _ _
  have HP7 := Zh hp7
  have KR7 : Hid (Blok w7 (w1.heap.size) 26 #[.int .i64 k, .slice a3 n3 c3, .int .i64 wn, .int .i64 wt]) := Zh (by rw [<- hp7]; exact KR6.out.put _)
  have HDD7 := Zh (G.disk_grown HDD6.out (HX3.out _ HKL.out) hg7)
  have HB7 := Zh (HB6.out.grown hg7 HB6.out.size (fun q hq => by cases hq; exact HS9.out))
  clear hp7 hg7 HV6 HD6 KW6 HX4 HDD6 HB6
  go_wp2_with (first | (refine Zw KR6.out HP7.out ?_))
  refine bodyPost_ret (G.ret_wal2 (v := .int .i64 1) rfl w1.heap.size (by kernel_rfl) (by kernel_rfl) KR7.out) rfl ?_
  rw [G.add_no (fun h => of_decide_eq_false HMV.out h.1)]
  exact ⟨a3, n3, c3, zs, rfl, HDD7, HF3, Zh (fun b hb => HX3.out b (Nat.lt_of_lt_of_le hb HLE.out)), HB7.out⟩
 | true =>
  cases nl with
  | zero =>
   have HLN : Hid (l = []) := Zh (List.eq_nil_of_length_eq_zero HV5.out.1)
   have HLE : Hid (w.heap.size <= w5.heap.size) := Zh HB5.out.size
   have HKL := Zh KR5.out.lt
   obtain ⟨x0, x1, x2, x3⟩ := G.pk KW5.out
   go_wp2_with fail
   refine (G.own_any k a n c wn wt xs w5 HD5.out HSM.out).mono ?_
   rintro e w6 ⟨a3, n3, c3, zs, rfl, HD3, HF3, HX3, hb⟩
   have HV6 := Zh (HV5.out.below hb)
   have HD6 := Zh (HD5.out.below hb)
   have KW6 := Zk KW5 hb
   have KR6 := Zk KR5 hb
   replace HX4 := Zh (HX4.out.below hb)
   have HB6 := Zt HB5 hb
   clear hb HV5 HD5 KW5 KR5 HB5
   have HDD6 := HD3
   clear x0 x1 x2 x3 HD3
   obtain ⟨w7, hp7⟩ : ∃ W, w6.setRow (w1.heap.size) #[.int .i64 k, .slice a3 n3 c3, .int .i64 wn, .int .i64 wt] = W := ⟨_, rfl⟩
   have hg7 : w6.grownBy w7 (some (w1.heap.size)) := by rw [<- hp7]; exact zbr _ _ _
   have HP7 := Zh hp7
   have KR7 : Hid (Blok w7 (w1.heap.size) 26 #[.int .i64 k, .slice a3 n3 c3, .int .i64 wn, .int .i64 wt]) := Zh (by rw [<- hp7]; exact KR6.out.put _)
   have HDD7 := Zh (G.disk_grown HDD6.out (HX3.out _ HKL.out) hg7)
   have HB7 := Zh (HB6.out.grown hg7 HB6.out.size (fun q hq => by cases hq; exact HS9.out))
   clear hp7 hg7 HV6 HD6 KW6 HX4 HDD6 HB6
   go_wp2_with (first | (refine Zw KR6.out HP7.out ?_))
   refine bodyPost_ret (G.ret_wal2 (v := .int .i64 1) rfl w1.heap.size (by kernel_rfl) (by kernel_rfl) KR7.out) rfl ?_
   rw [G.add_no (fun h => h.2.1 HLN.out)]
   exact ⟨a3, n3, c3, zs, rfl, HDD7, HF3, Zh (fun b hb => HX3.out b (Nat.lt_of_lt_of_le hb HLE.out)), HB7.out⟩
  | succ m =>
   have e0 : (((m + 1 : Nat) : Int) == 0) = false := by simp; omega
   have e0' : ((m : Int) + 1 == 0) = false := by simp; omega
   cases ev with
   | false =>
    have HLE : Hid (w.heap.size <= w5.heap.size) := Zh HB5.out.size
    have HKL := Zh KR5.out.lt
    obtain ⟨x0, x1, x2, x3⟩ := G.pk KW5.out
    go_wp2_with fail
    refine (G.own_any k a n c wn wt xs w5 HD5.out HSM.out).mono ?_
    rintro e w6 ⟨a3, n3, c3, zs, rfl, HD3, HF3, HX3, hb⟩
    have HV6 := Zh (HV5.out.below hb)
    have HD6 := Zh (HD5.out.below hb)
    have KW6 := Zk KW5 hb
    have KR6 := Zk KR5 hb
    replace HX4 := Zh (HX4.out.below hb)
    have HB6 := Zt HB5 hb
    clear hb HV5 HD5 KW5 KR5 HB5
    have HDD6 := HD3
    clear x0 x1 x2 x3 HD3
    obtain ⟨w7, hp7⟩ : ∃ W, w6.setRow (w1.heap.size) #[.int .i64 k, .slice a3 n3 c3, .int .i64 wn, .int .i64 wt] = W := ⟨_, rfl⟩
    have hg7 : w6.grownBy w7 (some (w1.heap.size)) := by rw [<- hp7]; exact zbr _ _ _
    have HP7 := Zh hp7
    have KR7 : Hid (Blok w7 (w1.heap.size) 26 #[.int .i64 k, .slice a3 n3 c3, .int .i64 wn, .int .i64 wt]) := Zh (by rw [<- hp7]; exact KR6.out.put _)
    have HDD7 := Zh (G.disk_grown HDD6.out (HX3.out _ HKL.out) hg7)
    have HB7 := Zh (HB6.out.grown hg7 HB6.out.size (fun q hq => by cases hq; exact HS9.out))
    clear hp7 hg7 HV6 HD6 KW6 HX4 HDD6 HB6
    go_wp2_with (first | (refine Zw KR6.out HP7.out ?_))
    refine bodyPost_ret (G.ret_wal2 (v := .int .i64 1) rfl w1.heap.size (by kernel_rfl) (by kernel_rfl) KR7.out) rfl ?_
    rw [G.add_no (fun h => by have h1 := h.2.2.1; simp only at h1; rw [HEV.out] at h1; cases h1)]
    exact ⟨a3, n3, c3, zs, rfl, HDD7, HF3, Zh (fun b hb => HX3.out b (Nat.lt_of_lt_of_le hb HLE.out)), HB7.out⟩
   | true =>
    cases ov with
    | false =>
     have HLE : Hid (w.heap.size <= w5.heap.size) := Zh HB5.out.size
     have HKL := Zh KR5.out.lt
     obtain ⟨x0, x1, x2, x3⟩ := G.pk KW5.out
     go_wp2_with fail
     refine (G.own_any k a n c wn wt xs w5 HD5.out HSM.out).mono ?_
     rintro e w6 ⟨a3, n3, c3, zs, rfl, HD3, HF3, HX3, hb⟩
     have HV6 := Zh (HV5.out.below hb)
     have HD6 := Zh (HD5.out.below hb)
     have KW6 := Zk KW5 hb
     have KR6 := Zk KR5 hb
     replace HX4 := Zh (HX4.out.below hb)
     have HB6 := Zt HB5 hb
     clear hb HV5 HD5 KW5 KR5 HB5
     have HDD6 := HD3
     clear x0 x1 x2 x3 HD3
     obtain ⟨w7, hp7⟩ : ∃ W, w6.setRow (w1.heap.size) #[.int .i64 k, .slice a3 n3 c3, .int .i64 wn, .int .i64 wt] = W := ⟨_, rfl⟩
     have hg7 : w6.grownBy w7 (some (w1.heap.size)) := by rw [<- hp7]; exact zbr _ _ _
     have HP7 := Zh hp7
     have KR7 : Hid (Blok w7 (w1.heap.size) 26 #[.int .i64 k, .slice a3 n3 c3, .int .i64 wn, .int .i64 wt]) := Zh (by rw [<- hp7]; exact KR6.out.put _)
     have HDD7 := Zh (G.disk_grown HDD6.out (HX3.out _ HKL.out) hg7)
     have HB7 := Zh (HB6.out.grown hg7 HB6.out.size (fun q hq => by cases hq; exact HS9.out))
     clear hp7 hg7 HV6 HD6 KW6 HX4 HDD6 HB6
     go_wp2_with (first | (refine Zw KR6.out HP7.out ?_))
     refine bodyPost_ret (G.ret_wal2 (v := .int .i64 1) rfl w1.heap.size (by kernel_rfl) (by kernel_rfl) KR7.out) rfl ?_
     rw [G.add_no (fun h => G.put_isNone HOV.out (by have h1 := h.2.2.2; simp only at h1; rw [HPB.out] at h1; exact h1))]
     exact ⟨a3, n3, c3, zs, rfl, HDD7, HF3, Zh (fun b hb => HX3.out b (Nat.lt_of_lt_of_le hb HLE.out)), HB7.out⟩
    | true =>
     have HOK := Zh (G.put_isSome HOV.out)
     have HBL : Hid (6 <= bb.length /\ bb.length <= 1007) := Zh (by have h1 := R.bytes_big HOK.out.1; rw [<- HOK.out.2, HBB.out] at h1; exact h1)
     have HCA : Hid (G.canAdd ((k, FP.files xs), wn, wt) l) := Zh ⟨of_decide_eq_true HMV.out, fun h => by have h1 := HV5.out.1; rw [h] at h1; simp at h1, HEV.out, by simp only; rw [HPB.out]; exact HOK.out.1⟩
     obtain ⟨⟨⟨k2, f2⟩, er⟩, hst⟩ : ∃ x, G.steps wn bb 1 (k, FP.files xs) = x := ⟨_, rfl⟩
     have HST := Zh hst
     have HST2 : Hid (G.steps wn (G.recE ((k, FP.files xs), wn, wt) l) 1 (k, FP.files xs) = ((k2, f2), er)) := Zh (by unfold G.recE; simp only; rw [HPB.out, <- HOK.out.2, HBB.out]; exact hst)
     clear hst
     obtain ⟨x0, x1, x2, x3⟩ := G.pk KW5.out
     have HVF : Hid (∀ x, al = some x -> x.block < w5.heap.size) := Zh (fun x hx => by
      rcases HV5.out.2.2.2 with h1 | ⟨b, off, h1, h2, _⟩
      ·have h3 := HV5.out.1; rw [h1] at h3; simp at h3
      ·rw [hx] at h1; simp only [Option.some.injEq] at h1; rw [h1]; exact h2)
     have HXS := HX4
     have HFA := Zh (HD5.out.far (Nat.le_refl _))
     have HLE : Hid (w.heap.size <= w5.heap.size) := Zh HB5.out.size
     have HLK : Hid (w.heap.size < w5.heap.size /\ w1.heap.size < w5.heap.size) := Zh ⟨KW5.out.lt, KR5.out.lt⟩
     obtain ⟨w6, hw6, hb, hk⟩ := Zn w5 87 #[.int .i64 k, .slice a n c, .int .i64 wn, .slice b2 m2 c2]
     have HV6 := Zh (HV5.out.below hb)
     have HD6 := Zh (HD5.out.below hb)
     have KW6 := Zk KW5 hb
     have KR6 := Zk KR5 hb
     replace HX4 := Zh (HX4.out.below hb)
     have HB6 := Zt HB5 hb
     have KP6 := Zh hk
     clear hb hk HV5 HD5 KW5 KR5 HB5
     obtain ⟨wz6, hz6⟩ : ∃ W, w5.alloc (.cells #[.int .i64 0, .slice none 0 0, .int .i64 0, .slice none 0 0] 87) = W := ⟨_, rfl⟩
     have HZK6 : Hid (Blok wz6 w5.heap.size 87 #[.int .i64 0, .slice none 0 0, .int .i64 0, .slice none 0 0]) := Zh (by rw [<- hz6]; exact Blok.new w5 _ _)
     have HPZ6 : Hid (wz6.setRow w5.heap.size #[.int .i64 k, .slice a n c, .int .i64 wn, .slice b2 m2 c2] = w6) := Zh (by rw [<- hz6, World.setRow_alloc_new, hw6])
     clear hw6
     have HPLT := Zh KP6.out.lt
     obtain ⟨w7, hw7, hb, hk⟩ := Zn w6 89 #[.func (.func 43) #[.pointer (some ⟨w5.heap.size, 0, none⟩)] #[], .func (.func 44) #[.pointer (some ⟨w5.heap.size, 0, none⟩)] #[]]
     have HV7 := Zh (HV6.out.below hb)
     have HD7 := Zh (HD6.out.below hb)
     have KW7 := Zk KW6 hb
     have KR7 := Zk KR6 hb
     replace HX4 := Zh (HX4.out.below hb)
     have KP7 := Zk KP6 hb
     have HB7 := Zt HB6 hb
     have KF7 := Zh hk
     clear hb hk HV6 HD6 KW6 KR6 KP6 HB6
     go_wp2_with (first | (refine Zw HZK6.out HPZ6.out ?_))
     try rw [hw7]
     refine (zxq w5.heap.size w6.heap.size 1 2 rfl (by decide) k a n c wn b2 m2 c2 bb xs ((k2, f2), er) w7 KP7.out HD7.out HSM.out hbl.out HX4.out hbz2.out (G.row_ne HXS.out (fun h => by have := HBL.out.1; rw [h] at this; simp at this) (Nat.le_refl _)) ⟨KF7.out.lt, fun e => by have := HPLT.out; omega⟩ (G.fv2 KF7.out) HST.out).mono ?_
     rintro e w8 ⟨a4, n4, c4, ys, rfl, KP8, HDD8, HFF, HXX, hg⟩
     have KW8 := Zh (KW7.out.grown hg (fun e => by have := HLK.out; simp only [Option.some.injEq] at e; omega))
     have KR8 := Zh (KR7.out.grown hg (fun e => by have := HLK.out; simp only [Option.some.injEq] at e; omega))
     have HD8 := Zh (G.disk_grown HD7.out HFA.out hg)
     have HV8 := Zh (HV7.out.grown hg (fun x hx e => by have := HVF.out x hx; simp only [Option.some.injEq] at e; omega))
     have HB8 := Zh (HB7.out.grown hg HB7.out.size (fun q hq => by cases hq; exact HLE.out))
     have HWW : Hid (w1.heap.size < w7.heap.size /\ w.heap.size <= w7.heap.size) := Zh ⟨KR7.out.lt, HB7.out.size⟩
     clear hg x0 x1 x2 x3 HV7 HD7 KW7 KR7 HX4 KP7 KF7 HB7 hw7
     by_cases he : er = 0
     rotate_left
     ·have e1 : (er != 0) = true := by simpa using he
      clear HXX HFF
      clear HDD8
      have HLE2 := HLE
      clear HLE
      have HLE : Hid (w.heap.size <= w8.heap.size) := Zh HB8.out.size
      have HKL := Zh KR8.out.lt
      obtain ⟨x0, x1, x2, x3⟩ := G.pk KW8.out
      go_wp2_with fail
      refine (G.own_any k a n c wn wt xs w8 HD8.out HSM.out).mono ?_
      rintro e w9 ⟨a3, n3, c3, zs, rfl, HD3, HF3, HX3, hb⟩
      have KW9 := Zk KW8 hb
      have KR9 := Zk KR8 hb
      have KP9 := Zk KP8 hb
      have HD9 := Zh (HD8.out.below hb)
      have HV9 := Zh (HV8.out.below hb)
      have HB9 := Zt HB8 hb
      clear hb KW8 KR8 KP8 HD8 HV8 HB8
      have HDD9 := HD3
      clear x0 x1 x2 x3 HD3
      obtain ⟨w10, hp10⟩ : ∃ W, w9.setRow (w1.heap.size) #[.int .i64 k, .slice a3 n3 c3, .int .i64 wn, .int .i64 wt] = W := ⟨_, rfl⟩
      have hg10 : w9.grownBy w10 (some (w1.heap.size)) := by rw [<- hp10]; exact zbr _ _ _
      have HP10 := Zh hp10
      have KR10 : Hid (Blok w10 (w1.heap.size) 26 #[.int .i64 k, .slice a3 n3 c3, .int .i64 wn, .int .i64 wt]) := Zh (by rw [<- hp10]; exact KR9.out.put _)
      have HDD10 := Zh (G.disk_grown HDD9.out (HX3.out _ HKL.out) hg10)
      have HB10 := Zh (HB9.out.grown hg10 HB9.out.size (fun q hq => by cases hq; exact HS9.out))
      clear hp10 hg10 KW9 KP9 HD9 HV9 HDD9 HB9
      go_wp2_with (first | (refine Zw KR9.out HP10.out ?_))
      refine bodyPost_ret (G.ret_wal2 (v := .int .i64 er) rfl w1.heap.size (by kernel_rfl) (by kernel_rfl) KR10.out) rfl ?_
      rw [G.add_err HCA.out HST2.out he]
      exact ⟨a3, n3, c3, zs, rfl, HDD10, HF3, Zh (fun b hb => HX3.out b (Nat.lt_of_lt_of_le hb HLE.out)), HB10.out⟩
     subst he
     have e1 : ((0 : Int) != 0) = false := rfl
     obtain ⟨eb, eo, x, hea, heb, hex, pc⟩ := HV8.out.at (i := m) (Nat.lt_succ_self m)
     subst hea
     have HEW : Hid (eb < w.heap.size /\ w.heap.size <= w1.heap.size) := Zh ⟨by
      rcases HV00.out _ rfl with h1 | h1
      ·exact h1
      ·have h3 := HV8.out.1; rw [h1] at h3; simp at h3, HS9.out⟩
     have HLS : Hid (N.last wt l = x.t) := Zh (N.last_at HV8.out.1 hex)
     have p1 : w8.cell? ⟨eb, eo + m * 9 + 1, none⟩ = some (.int .i64 x.t) := pc 1 _ rfl
     have HPC8 := Zh (And.intro heb p1)
     clear pc hex heb p1
     have j0 : (0 : Int) <= m := by omega
     have j1 : (m : Int) < ((m + 1 : Nat) : Int) := by omega
     have j2 : (m : Int) < (m : Int) + 1 := by omega
     have hml : maxLen <= 9223372036854775807 := by decide
     have hcl := HV8.out.2.1
     have e7 : IntKind.i64.wrap (((m + 1 : Nat) : Int) - 1) = (m : Int) := by rw [IntKind.wrap_i64]; omega
     have HR0 : Hid (Blok (World.drew w8) w5.heap.size 87 #[.int .i64 k2, .slice a4 n4 c4, .int .i64 wn, .slice b2 m2 c2] /\ Blok (World.drew w8) w.heap.size 26 #[.int .i64 k, .slice a n c, .int .i64 wn, .int .i64 wt] /\ (World.drew w8).cell? ⟨eb, eo + m * 9 + 1, none⟩ = some (.int .i64 x.t)) := Zh ⟨KP8.out.below (zaa _) KP8.out.lt, KW8.out.below (zaa _) KW8.out.lt, ((zaa w8).cell (p := ⟨eb, eo + m * 9 + 1, none⟩) HPC8.out.1).trans HPC8.out.2⟩
     obtain ⟨w9, hw9⟩ : ∃ V, World.drew w8 = V := ⟨_, rfl⟩
     have hb : Below w8.heap.size w8 w9 := by rw [<- hw9]; exact zaa w8
     have KW9 := Zk KW8 hb
     have KR9 := Zk KR8 hb
     have KP9 := Zk KP8 hb
     have HDD9 := Zh (HDD8.out.below hb)
     have HD9 := Zh (HD8.out.below hb)
     have HV9 := Zh (HV8.out.below hb)
     have HPC9 := Zh (And.intro (Nat.lt_of_lt_of_le HPC8.out.1 hb.size) ((hb.cell (p := ⟨eb, eo + m * 9 + 1, none⟩) HPC8.out.1).trans HPC8.out.2))
     have HB9 := Zt HB8 hb
     have HXM := Zh hb.size
     clear hb
     have KRo := KR9
     obtain ⟨w10, hp10⟩ : ∃ W, w9.setRow (w1.heap.size) #[.int .i64 k2, .slice a4 n4 c4, .int .i64 wn, .int .i64 x.t] = W := ⟨_, rfl⟩
     have hg10 : w9.grownBy w10 (some (w1.heap.size)) := by rw [<- hp10]; exact zbr _ _ _
     have HP10 := Zh hp10
     have KR10 : Hid (Blok w10 (w1.heap.size) 26 #[.int .i64 k2, .slice a4 n4 c4, .int .i64 wn, .int .i64 x.t]) := Zh (by rw [<- hp10]; exact KR9.out.put _)
     have HDD10 := Zh (G.disk_grown HDD9.out (HXX.out _ HWW.out.1) hg10)
     have KP10 := Zh (KP9.out.grown hg10 (fun e => by have := HLK.out; simp only [Option.some.injEq] at e; omega))
     have KW10 := Zh (KW9.out.grown hg10 (fun e => by have := HS3.out; simp only [Option.some.injEq] at e; omega))
     have HPC10 := Zh ((hg10.cell_far ⟨eb, eo + m * 9 + 1, none⟩ HPC9.out.1 (fun e => by have := HEW.out; simp only [Option.some.injEq] at e; omega)).trans HPC9.out.2)
     have HB10 := Zh (HB9.out.grown hg10 HB9.out.size (fun q hq => by cases hq; exact HS9.out))
     clear hp10 hg10 KW9 KP9 HDD9 HD9 HV9 HPC9 HB9
     have HRT : Hid (Blok w10 w5.heap.size 87 #[.int .i64 k2, .slice a4 n4 c4, .int .i64 wn, .slice b2 m2 c2] /\ Blok w10 w.heap.size 26 #[.int .i64 k, .slice a n c, .int .i64 wn, .int .i64 wt] /\ w10.cell? ⟨eb, eo + m * 9 + 1, none⟩ = some (.int .i64 x.t)) := Zh ⟨KP10.out, KW10.out, HPC10.out⟩
     go_wp2_with fail
     refine Zd (fun w' => Blok w' w5.heap.size 87 #[.int .i64 k2, .slice a4 n4 c4, .int .i64 wn, .slice b2 m2 c2] /\ Blok w' w.heap.size 26 #[.int .i64 k, .slice a n c, .int .i64 wn, .int .i64 wt] /\ w'.cell? ⟨eb, eo + m * 9 + 1, none⟩ = some (.int .i64 x.t)) (HR0.out) fun RS0 => ?_
     rw [hw9] at RS0 ⊢
     refine Zq 0 w5.heap.size 0 RS0 ?_
     refine Zl 1 (.agg #[.int .i64 k2, .slice a4 n4 c4]) rfl (fun w9 hS => by
        have q := hS.1
        have y0 := Zv q 0 (.int .i64 k2)
        have y1 := Zv q 1 (.slice a4 n4 c4)
        go_simp) RS0 ?_
     refine Zq 2 w.heap.size 2 RS0 ?_
     refine Zl 3 (.int .i64 wn) rfl (fun w9 hS => by
        have q := hS.2.1
        have y2 := Zv q 2 (.int .i64 wn)
        go_simp) RS0 ?_
     refine tk 4 (.slice (some ⟨eb, eo, none⟩) (m + 1) cl) RS0 ?_
     refine tk 5 (.slice (some ⟨eb, eo, none⟩) (m + 1) cl) RS0 ?_
     refine tk 6 (.int .i64 ((m + 1 : Nat) : Int)) RS0 ?_
     refine wpAnyH_take (i := 7) (v := .int .i64 (m : Int)) rfl (by kernel_rfl) (by kernel_rfl) (by kernel_rfl) (fun _ _ _ h => h) (.inl ⟨by kernel_rfl, fun w9 hS => by rw [<- e7]; kernel_rfl⟩) RS0 ?_
     refine wpAnyH_take (i := 8) (v := .pointer (some ⟨eb, eo + m * 9, none⟩)) rfl (by kernel_rfl) (by kernel_rfl) (by kernel_rfl) (fun _ _ _ h => h) (.inl ⟨by kernel_rfl, fun w9 hS => by go_simp⟩) RS0 ?_
     refine Zq 9 eb (eo + m * 9 + 1) RS0 ?_
     refine wpAnyH_take (i := 10) (v := .int .i64 x.t) rfl (by kernel_rfl) (by kernel_rfl) (by kernel_rfl) (fun _ _ _ h => h) (.inl ⟨by kernel_rfl, fun w9 hS => by have y := hS.2.2; go_simp⟩) RS0 ?_
     refine tk 11 (.agg #[.int .i64 k2, .slice a4 n4 c4, .int .i64 wn, .int .i64 x.t]) RS0 ?_
     have RSZ : (fun w' => Blok w' w5.heap.size 87 #[.int .i64 k2, .slice a4 n4 c4, .int .i64 wn, .slice b2 m2 c2] /\ Blok w' w.heap.size 26 #[.int .i64 k, .slice a n c, .int .i64 wn, .int .i64 wt] /\ w'.cell? ⟨eb, eo + m * 9 + 1, none⟩ = some (.int .i64 x.t)) w10 := HRT.out
     refine zaf (i := 12) (by kernel_rfl) (zah (w' := w10) rfl (by kernel_rfl) (by rw [<- HP10.out]; exact zm0 KRo.out rfl (by kernel_rfl) (by kernel_rfl) (by kernel_rfl) rfl (by kernel_rfl)) ⟨RSZ, ?_⟩)
     refine tk 13 (.int .i64 0) RSZ ?_
     refine wpAnyH_done (by kernel_rfl) ?_ _
     clear RS0 RSZ HR0 HRT KRo HXM hw9
     go_wp2
     refine bodyPost_ret (G.ret_wal2 (v := .int .i64 0) rfl w1.heap.size (by kernel_rfl) (by kernel_rfl) KR10.out) rfl ?_
     rw [G.add_ok HCA.out HST2.out]
     simp only
     rw [HLS.out]
     exact ⟨a4, n4, c4, ys, rfl, HDD10, HFF, Zh (fun b hb => HXX.out b (Nat.lt_of_lt_of_le hb HWW.out.2)), HB10.out⟩
end Go.Proofs.YtnbkkjcmblfhpaaGreat
namespace Go.Proofs.YtnbkkjcmblfhpaaGreat
namespace G
open D
def d0 : E.D := ⟨167772160, 31, 184549376, 32, 1000, 1099, 20, 10⟩
def p0 : Y.Po := ⟨1, 9, 5, false⟩
def s0 : Y.St := ⟨⟨167772160, 31, 184549376, 32, 1000, 1099, 20, 10⟩, ⟨1, 9, 5, false⟩, 0, [], [], []⟩
def e0 : Y.Ev := ⟨2, 0, 0, 1, 0, ⟨0, 0, 0, false⟩⟩
theorem ok0 : J.ok s0 := ⟨by decide +kernel, by decide +kernel⟩
theorem put0 : J.put s0 = some (J.bytes s0) := J.put_yes ok0
theorem len0 : 6 <= (recS s0).length /\ (recS s0).length <= 1007 := by rw [(recS_eq put0).1]; exact R.bytes_big (recS_eq put0).2
theorem may0 (b : Int) (h : 0 <= b /\ b <= 65536) : D.may (b, []) := ⟨⟨h.1, h.2, Nat.zero_le _⟩, ⟨fun _ hf => (nomatch hf), ⟨List.Pairwise.nil, h.1⟩⟩⟩
theorem new0 {room : Int} (s : Y.St) {b : List Int} (h : 1007 <= room /\ room <= 65536) (hp : J.put s = some b) : new (room, []) s = (((room, [(1, recS s, ((recS s).length : Int))]), 1, s.now), 0) := by
 have hl : (recS s).length <= 1007 := by rw [(recS_eq hp).1]; exact (R.bytes_big (recS_eq hp).2).2
 have hs := steps0_eq (room, []) (recS s)
 rw [if_pos ⟨may0 room ⟨by omega, h.2⟩, by show (0 : Int) < _; decide⟩, if_neg (by show ¬ (0 : Nat) = 12; decide), if_neg (by show ¬ room < ((0 + (recS s).length : Nat) : Int); omega)] at hs
 have hn : next (room, []) = 1 := rfl
 have := new_ok (s := s) (by rw [hp]; rfl) hs
 rw [hn] at this
 exact this
def w0 : T := ((2000, [(1, recS s0, ((recS s0).length : Int))]), 1, 0)
theorem new00 : new (2000, []) s0 = (w0, 0) := new0 s0 (by decide) put0
theorem mayd {room : Int} {b : List Int} (h : (b.length : Int) <= room /\ room <= 65536) : D.may (room, [(1, b, (b.length : Int))]) :=
 ⟨⟨by show 0 <= room; omega, h.2, by show (1 : Nat) <= 12; decide⟩, fun f hf => by simp only [List.mem_singleton] at hf; subst hf; exact ⟨by show (1 : Int) <= 1; decide, by show (1 : Int) <= _; decide, by simp, by simp⟩, List.pairwise_singleton _ _, by show ((used [(1, b, (b.length : Int))] : Nat) : Int) <= room; simp only [used, List.map_cons, List.map_nil, List.sum_cons, List.sum_nil]; omega⟩
theorem mayw0 : may w0 := ⟨mayd ⟨by have := len0; omega, by decide⟩, by simp [w0], rfl, by decide, by decide⟩
def pe : List Int := (N.flat 0 [e0]).flatMap M.put
theorem pute : N.put 0 [e0] = some pe := by
 unfold N.put
 rw [if_pos (by decide)]
 exact zpa (by decide) (by decide)
theorem lenp : pe.length <= 30 := Nat.le_trans (flat_len _) (by decide)
theorem oke : R.ok (2, pe) := ⟨by show (0 : Int) <= 2; decide, by show (2 : Int) <= 255; decide, Nat.le_trans lenp (by decide)⟩
def be : List Int := R.bytes (2, pe)
theorem lene : 6 <= be.length /\ be.length <= 41 := by
 have h1 := R.bytes_big oke
 have h2 := R.bytes_len (2, pe)
 have h3 := M.put_len6 ((2, pe) : R.T).2.length
 have h4 := lenp
 unfold be
 simp only at h2 h3
 omega
theorem can0 : canAdd w0 [e0] := ⟨mayw0, by simp, by show (N.put 0 [e0]).isSome = true; rw [pute]; rfl, by show R.ok (2, (N.put 0 [e0]).getD []); rw [pute]; exact oke⟩
def w1 : T := ((2000, [(1, recS s0 ++ be, ((recS s0 ++ be).length : Int))]), 1, 0)
theorem add00 : add w0 [e0] = (w1, 0) := by
 have hr : recE w0 [e0] = be := by show R.bytes (2, (N.put 0 [e0]).getD []) = be; rw [pute]; rfl
 have hs := steps1_eq (k := 2000) (l := []) (f := (1, recS s0, ((recS s0).length : Int))) be mayw0.1
 rw [if_neg (by simp only [List.nil_append, used, List.map_cons, List.map_nil, List.sum_cons, List.sum_nil]; have := len0; have := lene; omega)] at hs
 have := add_ok can0 (by rw [hr]; exact hs)
 exact this
theorem mayw1 : may w1 := ⟨mayd ⟨by rw [List.length_append]; have := len0; have := lene; omega, by decide⟩, by simp [w1], rfl, by decide, by decide⟩
end G
end Go.Proofs.YtnbkkjcmblfhpaaGreat
