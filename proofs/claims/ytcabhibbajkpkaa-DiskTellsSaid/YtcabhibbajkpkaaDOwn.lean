/-
  Walks of slices.Clone at slices of files, and of moorings/disk.own: a disk in memory of its own.
-/
import Derived.Test.YtcabhibbajkpkaaDRows
import Derived.Test.YtcabhibbajkpkaaReg2
import Derived.Laws.OwnMore
namespace Go.Proofs.Ytcabhibbajkpkaa
open Go.RowKit

theorem own3_nil {w : World} {g B : Nat} (h : Blok w g 43 #[]) (hB : B ≤ g) : w.ownsRow B 43 3 (.slice (some ⟨g, 0, none⟩) 0 0) 0 [] :=
  ⟨rfl, .inr ⟨g, 0, #[], rfl, hB, h, Nat.le_refl _, by simp [maxLen], rfl, rfl⟩⟩
/-- append, to a slice of files of the call's own, of whatever slice of files. -/
theorem wpList_append_files (w : World) {ops : Array Oper} {rest : List Oper} {o : Oper} {a : Act} {Q : Exit → Act → World → Prop} (hgd : o.guard = none) (s x : Operand)
    (ho : o.op = .call { callee := .builtin .append, args := #[s, x], argTypes := #[22, 22] })
    (base : Nat) (v : Value) (n : Nat) (xs : List FP) (hs : a.eval s = v) (hown : w.ownsRow base 43 3 v n (FP.flat xs))
    (ad : Option Addr) (m c : Nat) (ys : List FP) (hx : a.eval x = .slice ad m c) (hd : DiskIn w ad m c ys) (h63 : n + m ≤ 10000) (hbase : base ≤ w.heap.size)
    (h : ∀ v' w', w'.ownsRow base 43 3 v' (n + m) (FP.flat (xs ++ ys)) → w.grownBy w' v.ownBlock → wpList Try.prog ops Q rest (a.put o.dst v') w') : wpList Try.prog ops Q (o :: rest) a w := by
  obtain ⟨i0, hi, hz0, hz1, hz2⟩ := info_parts info_file
  cases ad with
  | none =>
    obtain ⟨rfl, rfl⟩ := hd.2.2 rfl
    obtain rfl : ys = [] := List.eq_nil_of_length_eq_zero hd.1
    exact wpList_append_own_none hgd s x 22 ho base 43 i0 3 Try.underlying22 hi v n (FP.flat xs) hs hown hx (h v w (by simpa using hown) ⟨rfl, rfl, rfl, Nat.le_refl _, fun _ _ _ => rfl⟩)
  | some ad =>
    refine wpList_append_own w hgd s x 22 ho base 43 i0 _ 3 40 Try.underlying22 hi hz0 hz1 hz2 rfl (by decide) v n (FP.flat xs) hs hown ad m c (FP.flat ys) hx (by rw [FP.flat_len, hd.1]) (fun j u hj => ?_) (FP.flat_one ys) (by unfold maxLen; omega) (by omega) hbase (fun v' w' h1 h2 _ => h v' w' (by rw [FP.flat_append]; exact h1) h2)
    rcases hd.2.1.2.2 with rfl | ⟨b, off, he, _, hc⟩
    · simp [FP.flat] at hj
    · cases he
      rw [WideShapes.add_plain]
      exact hc j u hj

theorem cloneF_any (a : Option Addr) (n c : Nat) (xs : List FP) (w : World) (h9 : n ≤ 1000) (hd : DiskIn w a n c xs) :
    Calls Try.prog 53 #[.slice a n c] w fun e w' => ∃ v, e = .returned v ∧ Hid (w'.ownsRow w.heap.size 43 3 v n (FP.flat xs)) ∧ Below w.heap.size w w' := by
  have HD := Lib.hid hd
  cases a with
  | none =>
    obtain ⟨rfl, rfl⟩ := hd.2.2 rfl
    obtain rfl : xs = [] := List.eq_nil_of_length_eq_zero hd.1
    clear hd
    have he : ∀ w : World, (binOp .eql 22 (.slice none 0 0) (.slice none 0 0)).run Try.prog w = .ok (.bool true) w := fun _ => rfl
    go_enter Try.func53, Try.ntmps53
    go_wp2
    go_ret
    exact ⟨_, rfl, Lib.hid (World.ownsRow_nil _ _ _ _), Below.refl _ _⟩
  | some x =>
    clear hd
    have he : ∀ w : World, (binOp .eql 22 (.slice (some x) n c) (.slice none 0 0)).run Try.prog w = .ok (.bool false) w := fun _ => rfl
    go_enter Try.func53, Try.ntmps53
    go_wp2_with (at_builtin; refine wpList_append_files _ rfl _ _ rfl w.heap.size _ 0 [] rfl (own3_nil (Blok.new w 43 #[]) (Nat.le_refl _)) (some x) n c xs rfl (HD.out.below ((Below.refl _ w).alloc (Nat.le_refl _) _)) (by omega) (by simp) ?_; intro v' w2 hown' hgrow)
    go_ret
    rw [Nat.zero_add] at hown'
    exact ⟨v', rfl, Lib.hid (by simpa using hown'), ((Below.refl _ w).alloc (Nat.le_refl _) _).grown hgrow (by simp) (fun k ek => by cases ek; exact Nat.le_refl _)⟩

/-- A file whose bytes are the call's own. -/
def Own1 (B : Nat) (w : World) (x : FP) : Prop := w.ownsRow B 5 1 (.slice x.a x.n x.c) x.n (x.B.map (Value.int .u8)) ∧ ∀ c ∈ x.B, (Lit.int .u8 c).wf = true
/-- Each lies behind the ones ahead. -/
def Apart (xs : List FP) : Prop := xs.Pairwise fun x y => ∀ g h, x.a = some g → y.a = some h → g.block < h.block
theorem Own1.ok {B : Nat} {w : World} {x : FP} (h : Own1 B w x) : FP.ok w x := by
  have hl : x.B.length = x.n := by have := h.1.1; simpa using this
  refine ⟨hl, row3_like h.1 h.2, fun ha => ?_⟩
  rcases h.1.2 with ⟨he, h0⟩ | ⟨g, cap, cur, he, _⟩
  · simp only [Value.slice.injEq] at he; exact ⟨he.2.1, he.2.2⟩
  · rw [ha] at he; simp at he
theorem Own1.lt {B : Nat} {w : World} {x : FP} (h : Own1 B w x) {g : Addr} (hg : x.a = some g) : B ≤ g.block ∧ g.block < w.heap.size := h.1.lt g.block (by rw [hg]; rfl)
theorem Own1.grown {B : Nat} {w w' : World} {x : FP} {row : Option Nat} (h : Own1 B w x) (hg : w.grownBy w' row) (hne : ∀ g, x.a = some g → some g.block ≠ row) : Own1 B w' x := by
  refine ⟨h.1.kept hg ?_, h.2⟩
  cases ha : x.a with
  | none => exact .inl rfl
  | some g => exact .inr (by have := hne g ha; simpa [Value.ownBlock, ha] using this)
theorem Own1.below {B : Nat} {w w' : World} {x : FP} (h : Own1 B w x) (hb : Below w.heap.size w w') : Own1 B w' x := ⟨ownsRow_below h.1 hb, h.2⟩
theorem setCell_grown (w : World) (g i : Nat) (u : Value) : w.grownBy (w.setCell ⟨g, i, none⟩ u) (some g) :=
  ⟨rfl, rfl, rfl, by simp, fun k _ hk => Below.heap_setCell w ⟨g, i, none⟩ u k (fun e => hk (by simp [e]))⟩
theorem FP.flat_set (zs : List FP) (x : FP) (r : List FP) (a : Option Addr) (n c : Nat) : (FP.flat (zs ++ x :: r)).set (zs.length * 3 + 1) (.slice a n c) = FP.flat (zs ++ { x with a := a, n := n, c := c } :: r) := by
  rw [FP.flat_append, FP.flat_append, List.set_append_right _ _ (by rw [FP.flat_len]; omega), FP.flat_len]
  congr 1
  rw [show zs.length * 3 + 1 - zs.length * 3 = 1 by omega]
  rfl

/-- What own returns: a disk of the same files, all in memory of its own. -/
def OwnIs (k : Int) (l : List D.F) (w : World) (e : Ending) (w' : World) : Prop :=
  ∃ a n c ys, e = .returned (.agg #[.int .i64 k, .slice a n c]) ∧ Hid (ys.length = n) ∧ Hid (FP.files ys = l) ∧ Hid (w'.ownsRow w.heap.size 43 3 (.slice a n c) n (FP.flat ys)) ∧ Hid (∀ y ∈ ys, Own1 w.heap.size w' y) ∧ Hid (Apart ys) ∧ Below w.heap.size w w'

theorem own_blok_ne {w : World} {B n c g b : Nat} {t : TypeId} {cs : Array Value} {xs : List Value} (h : w.ownsRow B 43 3 (.slice (some ⟨g, 0, none⟩) n c) n xs) (hb : Blok w b t cs) (ht : t ≠ 43 ∨ b < B) : b ≠ g := by
  rintro rfl
  rcases ht with ht | ht
  · rcases h.2 with ⟨h0, _⟩ | ⟨g', cap', cur, he, _, hg, _⟩
    · cases h0
    · simp only [Value.slice.injEq, Option.some.injEq, Addr.mk.injEq, and_true, true_and] at he
      obtain ⟨rfl, rfl⟩ := he
      have := (show w.heap[b]? = _ from hb).symm.trans hg
      simp at this
      exact ht this.2
  · have := h.lt b rfl
    omega

set_option maxRecDepth 100000 in
set_option maxHeartbeats 400000 in
theorem own_any (k : Int) (a : Option Addr) (n c : Nat) (xs : List FP) (w : World) (hd : DiskIn w a n c xs) (hs : D.small (FP.files xs)) :
    Calls Try.prog 42 #[.agg #[.int .i64 k, .slice a n c]] w (OwnIs k (FP.files xs) w) := by
  have HBX := Lib.hid (dbn_below w k a n c)
  have HD := Lib.hid hd
  have hcap := hd.caps
  have hml : maxLen ≤ 9223372036854775807 := by decide
  have h14 : n ≤ 14 := by have h1 := hs.1; simp only [FP.files_len, hd.1] at h1; exact h1
  have HS : Hid (∀ x ∈ xs, x.B.length ≤ 70000) := Lib.hid (fun x hx => hs.2 (FP.file x) (List.mem_map.2 ⟨x, hx, rfl⟩))
  clear hd hs
  go_enter Try.func42, Try.ntmps42
  go_wp2_with fail
  refine (cloneF_any a n c xs (dbn w k a n c) (by omega) (HD.out.below HBX.out)).mono ?_
  rintro e w1 ⟨v, rfl, HO, hb1⟩
  have B1 := Lib.hid (HBX.out.trans (hb1.mono HBX.out.size))
  have KA := Lib.hid ((dbn_arg w k a n c).on hb1)
  have KR := Lib.hid ((dbn_res w k a n c).on hb1)
  clear hb1
  obtain ⟨a2, c2, rfl, _, hz2⟩ := own_files HO.out HD.out.1 (fun x hx => (HD.out.2.1.2.1 x hx).below B1.out)
  have k1 := dk1 KA.out
  have f1 := KA.out.frozen 1
  have hg1 := setCell_grown w1 w.heap.size 1 (.slice a2 n c2)
  have KA2 : Hid (Blok (w1.setCell ⟨w.heap.size, 1, none⟩ (.slice a2 n c2)) w.heap.size 24 #[.int .i64 k, .slice a2 n c2]) := Lib.hid (by simpa using KA.out.set 1 (.slice a2 n c2))
  have KR2 := Lib.hid (KR.out.grown hg1 (by simp))
  have HO2 : Hid ((w1.setCell ⟨w.heap.size, 1, none⟩ (.slice a2 n c2)).ownsRow w.heap.size 43 3 (.slice a2 n c2) n (FP.flat xs)) := Lib.hid (ownsRow_base (HO.out.kept hg1 (.inr (fun e => by have := HO.out.lt _ e; rw [dbn_size] at this; omega))) (by rw [dbn_size]; omega))
  have HB2 : Hid (Below w.heap.size w (w1.setCell ⟨w.heap.size, 1, none⟩ (.slice a2 n c2))) := Lib.hid (B1.out.setCell (p := ⟨w.heap.size, 1, none⟩) (Nat.le_refl _) _)
  have hcap2 : n ≤ c2 ∧ c2 ≤ maxLen := by
    rcases HO.out.2 with ⟨he, _⟩ | ⟨g, cap, cur, he, _, _, h1, h2, _⟩
    · simp only [Value.slice.injEq] at he; omega
    · simp only [Value.slice.injEq] at he; omega
  clear KA KR HO B1
  go_wp2_with fail
  clear k1 f1
  clear hg1
  go_loopw [12] (fun i wr => ∃ (j : Nat) (zs : List FP), i = .int .i64 j ∧ j ≤ n ∧ zs.length = j ∧ Hid (FP.files zs = FP.files (xs.take j)) ∧ Hid (wr.ownsRow w.heap.size 43 3 (.slice a2 n c2) n (FP.flat (zs ++ xs.drop j))) ∧ Hid (∀ z ∈ zs, Own1 w.heap.size wr z) ∧ Hid (Apart zs) ∧ Hid (Blok wr w.heap.size 24 #[.int .i64 k, .slice a2 n c2]) ∧ Hid (Blok wr (w.heap.size + 1) 24 #[.int .i64 0, .slice none 0 0]) ∧ Below w.heap.size w wr) (fun i _ => n - (intOf i).toNat)
  case atStart => exact ⟨0, [], rfl, by omega, rfl, Lib.hid (by simp), HO2, Lib.hid (by simp), Lib.hid (by simp [Apart]), KA2, KR2, HB2.out⟩
  case round =>
    obtain ⟨j, zs, rfl, hjn, hzl, HZ, HO, HW, HP, KA, KR, hB⟩ := hrel
    by_cases hlt : j < n
    · obtain ⟨g, cp, he, hBg, hgl⟩ := HO.out.form (by omega)
      simp only [Value.slice.injEq, true_and] at he
      obtain ⟨rfl, rfl⟩ := he
      have hxj : j < xs.length := by rw [HD.out.1]; exact hlt
      obtain ⟨⟨no, a1, n1, c1, B1, s1⟩, hx⟩ : ∃ x, xs[j]? = some x := ⟨_, List.getElem?_eq_getElem hxj⟩
      have hok := (HD.out.2.1.2.1 _ (List.mem_of_getElem? hx)).below hB
      have hx2 : (zs ++ xs.drop j)[j]? = some ⟨no, a1, n1, c1, B1, s1⟩ := by
        rw [List.getElem?_append_right (by omega), hzl, Nat.sub_self, List.getElem?_drop]; simpa using hx
      obtain ⟨g0, g1, g2⟩ := FP.flat_at _ _ _ hx2
      have q0 := (HO.out.cellAt (j * 3) (by omega)).trans g0
      have q1 := (HO.out.cellAt (j * 3 + 1) (by omega)).trans g1
      have q2 := (HO.out.cellAt (j * 3 + 2) (by omega)).trans g2
      have HX := Lib.hid hx
      have HOK := Lib.hid hok
      have hn1 : n1 ≤ 70000 := by have := HS.out _ (List.mem_of_getElem? hx); have h2 := hok.1; simp only at this h2; omega
      have G1 := Lib.hid g1
      have hne : w.heap.size ≠ g := own_blok_ne HO.out KA.out (.inl (by decide))
      have hne2 : w.heap.size + 1 ≠ g := own_blok_ne HO.out KR.out (.inl (by decide))
      clear hx hok hx2 g0 g1 g2
      go_wp2_with fail
      refine wp_region_held (S := fun w' => w'.cell? ⟨w.heap.size, 1, none⟩ = some (.slice (some ⟨g, 0, none⟩) n c2) ∧ w'.cell? ⟨wr.heap.size, 1, none⟩ = some (.slice a1 n1 c1)) (by kernel_rfl) ?_
      change wpAnyH _ _ _ _ _ _ _ _ (World.drew (fbox wr no a1 n1 c1 s1))
      have FB := fbox_below wr no a1 n1 c1 s1
      have FBD := FB.drew
      have HS0 : (fun w' : World => w'.cell? ⟨w.heap.size, 1, none⟩ = some (.slice (some ⟨g, 0, none⟩) n c2) ∧ w'.cell? ⟨wr.heap.size, 1, none⟩ = some (.slice a1 n1 c1)) (World.drew (fbox wr no a1 n1 c1 s1)) := ⟨dk1 (KA.out.on FBD), fk1 (fbox_blok wr no a1 n1 c1 s1).drew⟩
      refine wpAnyH_take (i := 0) (v := (.pointer (some ⟨w.heap.size, 1, none⟩))) rfl (by kernel_rfl) (by kernel_rfl) (by kernel_rfl) (fun _ _ _ h => h) (.inl ⟨by kernel_rfl, fun w9 hS => by kernel_rfl⟩) HS0 ?_
      refine wpAnyH_take (i := 1) (v := (.slice (some ⟨g, 0, none⟩) n c2)) rfl (by kernel_rfl) (by kernel_rfl) (by kernel_rfl) (fun _ _ _ h => h) (.inl ⟨by kernel_rfl, fun w9 hS => by have c := hS.1; go_simp⟩) HS0 ?_
      refine wpAnyH_take (i := 2) (v := (.int .i64 (j : Int))) rfl (by kernel_rfl) (by kernel_rfl) (by kernel_rfl) (fun _ _ _ h => h) (.inl ⟨by kernel_rfl, fun w9 hS => by kernel_rfl⟩) HS0 ?_
      refine wpAnyH_take (i := 3) (v := (.pointer (some ⟨wr.heap.size, 1, none⟩))) rfl (by kernel_rfl) (by kernel_rfl) (by kernel_rfl) (fun _ _ _ h => h) (.inl ⟨by kernel_rfl, fun w9 hS => by kernel_rfl⟩) HS0 ?_
      refine wpAnyH_take (i := 4) (v := (.slice a1 n1 c1)) rfl (by kernel_rfl) (by kernel_rfl) (by kernel_rfl) (fun _ _ _ h => h) (.inl ⟨by kernel_rfl, fun w9 hS => by have c := hS.2; go_simp⟩) HS0 ?_
      refine wpAnyH_call (i := 5) (f := 54) (args := #[.slice a1 n1 c1]) (by kernel_rfl) rfl (by kernel_rfl) (by kernel_rfl) (clone_any a1 n1 c1 B1 _ (by omega) HOK.out.1 (HOK.out.2.1.below FBD)) ?_
      rintro e w3 ⟨v3, rfl, ho3, hb3⟩
      have hl3 : (World.drew (fbox wr no a1 n1 c1 s1)).heap.size = wr.heap.size + 1 := fbox_size wr no a1 n1 c1 s1
      obtain ⟨a3, c3, rfl, r3⟩ := own_row ho3 HOK.out.2.1.2.1
      have hb3' : Below wr.heap.size wr w3 := FBD.trans (hb3.mono FBD.size)
      have HO3 := ownsRow_below HO.out hb3'
      have KA3 := Lib.hid (KA.out.on hb3')
      have KF3 := (fbox_blok wr no a1 n1 c1 s1).drew.on hb3
      have KR3 := Lib.hid (KR.out.on hb3')
      have hbw : wr.heap.size ≠ g := by omega
      have q4 := (HO3.cellAt (j * 3 + 1) (by omega)).trans G1.out
      have q5 := HO3.frozenAt (j * 3 + 1)
      have hg4 := setCell_grown w3 g (j * 3 + 1) (.slice a3 n1 c3)
      have HS3 : (fun w' : World => w'.cell? ⟨w.heap.size, 1, none⟩ = some (.slice (some ⟨g, 0, none⟩) n c2) ∧ w'.cell? ⟨wr.heap.size, 1, none⟩ = some (.slice a1 n1 c1)) w3 := ⟨dk1 KA3.out, fk1 KF3⟩
      refine ⟨_, rfl, HS3, ?_⟩
      refine wpAnyH_take (i := 6) (v := (.pointer (some ⟨g, j * 3, none⟩))) rfl (by kernel_rfl) (by kernel_rfl) (by kernel_rfl) (fun _ _ _ h => h) (.inl ⟨by kernel_rfl, fun w9 hS => by go_simp⟩) HS3 ?_
      refine wpAnyH_take (i := 7) (v := (.pointer (some ⟨g, j * 3 + 1, none⟩))) rfl (by kernel_rfl) (by kernel_rfl) (by kernel_rfl) (fun _ _ _ h => h) (.inl ⟨by kernel_rfl, fun w9 hS => by kernel_rfl⟩) HS3 ?_
      have HS4 : (fun w' : World => w'.cell? ⟨w.heap.size, 1, none⟩ = some (.slice (some ⟨g, 0, none⟩) n c2) ∧ w'.cell? ⟨wr.heap.size, 1, none⟩ = some (.slice a1 n1 c1)) (w3.setCell ⟨g, j * 3 + 1, none⟩ (.slice a3 n1 c3)) := ⟨dk1 (KA3.out.grown hg4 (by simp; exact hne)), fk1 (KF3.grown hg4 (by simp; exact hbw))⟩
      refine wpAnyH_one (i := 8) (by kernel_rfl) (wpOp_skip (w' := w3.setCell ⟨g, j * 3 + 1, none⟩ (.slice a3 n1 c3)) rfl (by kernel_rfl) (by go_simp) ⟨HS4, ?_⟩)
      refine wpAnyH_done (by kernel_rfl) ?_ _
      have hzx : FP.files (zs ++ [⟨no, a3, n1, c3, B1, s1⟩]) = FP.files (xs.take (j + 1)) := by
        obtain ⟨h1, h2⟩ := List.getElem?_eq_some_iff.1 HX.out
        rw [List.take_succ_eq_append_getElem h1, FP.files_append, FP.files_append, HZ.out, h2]; rfl
      have HZ4 := Lib.hid hzx
      have HB4 := hB.trans (hb3'.mono hB.size)
      have HO4 : Hid ((w3.setCell ⟨g, j * 3 + 1, none⟩ (.slice a3 n1 c3)).ownsRow w.heap.size 43 3 (.slice (some ⟨g, 0, none⟩) n c2) n (FP.flat ((zs ++ [⟨no, a3, n1, c3, B1, s1⟩]) ++ xs.drop (j + 1)))) := Lib.hid (by
        have h1 := (HO3.stored (j * 3 + 1) (.slice a3 n1 c3)).1
        obtain ⟨h2, h3⟩ := List.getElem?_eq_some_iff.1 HX.out
        rw [List.drop_eq_getElem_cons h2, h3, ← hzl, FP.flat_set] at h1
        rw [List.append_assoc, ← hzl]
        exact h1)
      have HN : Own1 w.heap.size w3 ⟨no, a3, n1, c3, B1, s1⟩ := ⟨ownsRow_base ho3 (by rw [hl3]; have := hB.size; omega), HOK.out.2.1.2.1⟩
      have HN0 : ∀ h, a3 = some h → wr.heap.size + 1 ≤ h.block := fun h hh => by have := (ho3.lt h.block (by rw [hh]; rfl)).1; rw [hl3] at this; exact this
      have HW4 : Hid (∀ z ∈ zs ++ [⟨no, a3, n1, c3, B1, s1⟩], Own1 w.heap.size (w3.setCell ⟨g, j * 3 + 1, none⟩ (.slice a3 n1 c3)) z) := Lib.hid (by
        intro z hz
        have hz3 : Own1 w.heap.size w3 z := by
          rcases List.mem_append.1 hz with hz | hz
          · exact (HW.out z hz).below hb3'
          · simp only [List.mem_singleton] at hz
            rw [hz]; exact HN
        refine hz3.grown hg4 (fun h hh e => ?_)
        have hgg : h.block = g := by simpa using e
        have hbk : ∃ cs, w3.heap[h.block]? = some (.cells cs 5 (0, 0)) := by
          rcases hz3.1.2 with ⟨h0, _⟩ | ⟨g', cap', cur, he', _, hg', _⟩
          · rw [hh] at h0; simp at h0
          · rw [hh] at he'; simp only [Value.slice.injEq, Option.some.injEq] at he'; rw [he'.1]; exact ⟨_, hg'⟩
        obtain ⟨cs, hcs⟩ := hbk
        exact own_blok_ne (t := 5) (b := h.block) HO3 hcs (.inl (by decide)) hgg)
      have HP4 : Hid (Apart (zs ++ [⟨no, a3, n1, c3, B1, s1⟩])) := Lib.hid (by
        refine List.pairwise_append.2 ⟨HP.out, List.pairwise_singleton _ _, fun x hx y hy g1 g2 e1 e2 => ?_⟩
        simp only [List.mem_singleton] at hy
        subst hy
        have h1 := (HW.out x hx).lt e1
        have h2 := HN0 g2 e2
        omega)
      have KA4 := Lib.hid (KA3.out.grown hg4 (by simp; exact hne))
      have KR4 := Lib.hid (KR3.out.grown hg4 (by simp; exact hne2))
      have HB5 := Lib.hid (HB4.setCell (p := ⟨g, j * 3 + 1, none⟩) hBg (.slice a3 n1 c3))
      clear HS3 hg4 HB4 HN HN0 HS4 q4 q5 KF3 HO3 hb3' hb3 ho3 r3 q0 q1 q2 HS0 FB FBD hzx hl3
      go_wp2
      go_roundw
      case rel => exact ⟨j + 1, zs ++ [⟨no, a3, n1, c3, B1, s1⟩], by go_num, by omega, by simp [hzl], HZ4, HO4, HW4, HP4, KA4, KR4, HB5.out⟩
      case measure => simp [intOf]; omega
    · have hd : decide (j < n) = false := by simp; omega
      have hdn : xs.drop j = [] := List.drop_eq_nil_of_le (by rw [HD.out.1]; omega)
      have htn : xs.take j = xs := List.take_of_length_le (by rw [HD.out.1]; omega)
      rw [hdn, List.append_nil] at HO
      rw [htn] at HZ
      have hjn' : j = n := by omega
      have k0 := dk0 KA.out
      have k1 := dk1 KA.out
      have r0 := dk0 KR.out
      have r1 := dk1 KR.out
      have f0 := KR.out.frozen 0
      have f1 := KR.out.frozen 1
      go_wp2
      refine bodyPost_ret (ret_disk (g := w.heap.size + 1) rfl k a2 n c2 (by kernel_rfl) KR.out.put) (by kernel_rfl) ?_
      have hsz : ∀ x ∈ zs, ∀ g, x.a = some g → g.block ≠ w.heap.size + 1 := fun x hx g hg e => by
        rcases (HW.out x hx).1.2 with ⟨h0, _⟩ | ⟨g', cap', cur, he', _, hg', _⟩
        · rw [hg] at h0; simp at h0
        · rw [hg] at he'
          simp only [Value.slice.injEq, Option.some.injEq] at he'
          rw [he'.1] at e
          have e' : g' = w.heap.size + 1 := e
          rw [e'] at hg'
          have h2 : wr.heap[w.heap.size + 1]? = _ := KR.out
          rw [h2] at hg'
          simp at hg'
      have hrow : (Value.slice a2 n c2).ownBlock ≠ some (w.heap.size + 1) := fun e => by
        rcases HO.out.2 with ⟨h0, _⟩ | ⟨g', cap', cur, he', _, hg', _⟩
        · rw [h0] at e; simp [Value.ownBlock] at e
        · rw [he'] at e
          have e' : g' = w.heap.size + 1 := by simpa [Value.ownBlock] using e
          rw [e'] at hg'
          have h2 : wr.heap[w.heap.size + 1]? = _ := KR.out
          rw [h2] at hg'
          simp at hg'
      have gg : wr.grownBy ((wr.setCell ⟨w.heap.size + 1, 0, none⟩ (.int .i64 k)).setCell ⟨w.heap.size + 1, 1, none⟩ (.slice a2 n c2)) (some (w.heap.size + 1)) :=
        ⟨rfl, rfl, rfl, by simp, fun b hb hne => ((setCell_grown _ (w.heap.size + 1) 1 _).block b (by simpa using hb) hne).trans ((setCell_grown wr (w.heap.size + 1) 0 _).block b hb hne)⟩
      exact ⟨a2, n, c2, zs, rfl, Lib.hid (by omega), HZ, Lib.hid (HO.out.kept gg (.inr hrow)), Lib.hid (fun z hz => (HW.out z hz).grown gg (fun g hg e => hsz z hz g hg (by simpa using e))), HP, below_store hB (Nat.le_succ _) _ _ _ _⟩
end Go.Proofs.Ytcabhibbajkpkaa
