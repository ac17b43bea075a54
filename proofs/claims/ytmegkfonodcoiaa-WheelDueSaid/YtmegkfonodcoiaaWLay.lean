/-
  A walk of wheel.lay: a ring of timers.
-/
import Derived.Test.YtmegkfonodcoiaaWPut
namespace Go.Proofs.Ytmegkfonodcoiaa
open Go.RowKit

abbrev zring : Array Value := #[.slice none 0 0, .slice none 0 0, .slice none 0 0, .slice none 0 0, .slice none 0 0, .slice none 0 0, .slice none 0 0, .slice none 0 0, .slice none 0 0, .slice none 0 0, .slice none 0 0, .slice none 0 0, .slice none 0 0, .slice none 0 0, .slice none 0 0, .slice none 0 0]
theorem ring_letters {vs : Array Value} (h : vs.size = 16) : ∃ v0 v1 v2 v3 v4 v5 v6 v7 v8 v9 v10 v11 v12 v13 v14 v15 : Value, vs = #[v0, v1, v2, v3, v4, v5, v6, v7, v8, v9, v10, v11, v12, v13, v14, v15] := by
  obtain ⟨l⟩ := vs
  simp only [List.size_toArray] at h
  match l, h with
  | [v0, v1, v2, v3, v4, v5, v6, v7, v8, v9, v10, v11, v12, v13, v14, v15], _ => exact ⟨v0, v1, v2, v3, v4, v5, v6, v7, v8, v9, v10, v11, v12, v13, v14, v15, rfl⟩
theorem ownT_form {V : World} {B n : Nat} {v : Value} {xs : List Value} (h : V.ownsRow B 40 2 v n xs) : ∃ a c, v = .slice a n c := by
  rcases h.2 with ⟨rfl, rfl⟩ | ⟨g, cap, cur, rfl, _⟩
  · exact ⟨_, _, rfl⟩
  · exact ⟨_, _, rfl⟩
theorem RowsIn.letters {B : Nat} {l : List W.Tm} {vs : Array Value} {V : World} (h : RowsIn B l vs V) : ∃ (a0 : Option Addr) (n0 c0 : Nat) (a1 : Option Addr) (n1 c1 : Nat) (a2 : Option Addr) (n2 c2 : Nat) (a3 : Option Addr) (n3 c3 : Nat) (a4 : Option Addr) (n4 c4 : Nat) (a5 : Option Addr) (n5 c5 : Nat) (a6 : Option Addr) (n6 c6 : Nat) (a7 : Option Addr) (n7 c7 : Nat) (a8 : Option Addr) (n8 c8 : Nat) (a9 : Option Addr) (n9 c9 : Nat) (a10 : Option Addr) (n10 c10 : Nat) (a11 : Option Addr) (n11 c11 : Nat) (a12 : Option Addr) (n12 c12 : Nat) (a13 : Option Addr) (n13 c13 : Nat) (a14 : Option Addr) (n14 c14 : Nat) (a15 : Option Addr) (n15 c15 : Nat), vs = #[.slice a0 n0 c0, .slice a1 n1 c1, .slice a2 n2 c2, .slice a3 n3 c3, .slice a4 n4 c4, .slice a5 n5 c5, .slice a6 n6 c6, .slice a7 n7 c7, .slice a8 n8 c8, .slice a9 n9 c9, .slice a10 n10 c10, .slice a11 n11 c11, .slice a12 n12 c12, .slice a13 n13 c13, .slice a14 n14 c14, .slice a15 n15 c15] := by
  obtain ⟨v0, v1, v2, v3, v4, v5, v6, v7, v8, v9, v10, v11, v12, v13, v14, v15, rfl⟩ := ring_letters h.1
  obtain ⟨a0, c0, h0⟩ := ownT_form (h.2.1 0 (by decide))
  obtain rfl := (show v0 = _ from h0)
  obtain ⟨a1, c1, h1⟩ := ownT_form (h.2.1 1 (by decide))
  obtain rfl := (show v1 = _ from h1)
  obtain ⟨a2, c2, h2⟩ := ownT_form (h.2.1 2 (by decide))
  obtain rfl := (show v2 = _ from h2)
  obtain ⟨a3, c3, h3⟩ := ownT_form (h.2.1 3 (by decide))
  obtain rfl := (show v3 = _ from h3)
  obtain ⟨a4, c4, h4⟩ := ownT_form (h.2.1 4 (by decide))
  obtain rfl := (show v4 = _ from h4)
  obtain ⟨a5, c5, h5⟩ := ownT_form (h.2.1 5 (by decide))
  obtain rfl := (show v5 = _ from h5)
  obtain ⟨a6, c6, h6⟩ := ownT_form (h.2.1 6 (by decide))
  obtain rfl := (show v6 = _ from h6)
  obtain ⟨a7, c7, h7⟩ := ownT_form (h.2.1 7 (by decide))
  obtain rfl := (show v7 = _ from h7)
  obtain ⟨a8, c8, h8⟩ := ownT_form (h.2.1 8 (by decide))
  obtain rfl := (show v8 = _ from h8)
  obtain ⟨a9, c9, h9⟩ := ownT_form (h.2.1 9 (by decide))
  obtain rfl := (show v9 = _ from h9)
  obtain ⟨a10, c10, h10⟩ := ownT_form (h.2.1 10 (by decide))
  obtain rfl := (show v10 = _ from h10)
  obtain ⟨a11, c11, h11⟩ := ownT_form (h.2.1 11 (by decide))
  obtain rfl := (show v11 = _ from h11)
  obtain ⟨a12, c12, h12⟩ := ownT_form (h.2.1 12 (by decide))
  obtain rfl := (show v12 = _ from h12)
  obtain ⟨a13, c13, h13⟩ := ownT_form (h.2.1 13 (by decide))
  obtain rfl := (show v13 = _ from h13)
  obtain ⟨a14, c14, h14⟩ := ownT_form (h.2.1 14 (by decide))
  obtain rfl := (show v14 = _ from h14)
  obtain ⟨a15, c15, h15⟩ := ownT_form (h.2.1 15 (by decide))
  obtain rfl := (show v15 = _ from h15)
  exact ⟨a0, _, c0, a1, _, c1, a2, _, c2, a3, _, c3, a4, _, c4, a5, _, c5, a6, _, c6, a7, _, c7, a8, _, c8, a9, _, c9, a10, _, c10, a11, _, c11, a12, _, c12, a13, _, c13, a14, _, c14, a15, _, c15, rfl⟩
theorem RowsIn.nil (B : Nat) (V : World) : RowsIn B [] zring V := by
  have hz : ∀ k : Nat, k < 16 → zring[k]! = .slice none 0 0 := fun k hk => by
    match k, hk with
    | 0, _ => rfl
    | 1, _ => rfl
    | 2, _ => rfl
    | 3, _ => rfl
    | 4, _ => rfl
    | 5, _ => rfl
    | 6, _ => rfl
    | 7, _ => rfl
    | 8, _ => rfl
    | 9, _ => rfl
    | 10, _ => rfl
    | 11, _ => rfl
    | 12, _ => rfl
    | 13, _ => rfl
    | 14, _ => rfl
    | 15, _ => rfl
    | k + 16, h => exact absurd h (by omega)
  refine ⟨rfl, fun k hk => ?_, fun i j hi hj hij g hg => ?_⟩
  · rw [hz k hk]; exact World.ownsRow_nil _ _ _ _
  · rw [hz i hi] at hg; simp [Value.ownBlock] at hg

/-- The result is a ring in a cell. -/
theorem ret_ring {fn : Func} {p : Tmp} (h : fn.results = #[.cell p 47]) {tmps : Array Value} {V : World} (g : Nat) (v0 v1 v2 v3 v4 v5 v6 v7 v8 v9 v10 v11 v12 v13 v14 v15 : Value)
    (hp : tmps.getD p undef = .pointer (some ⟨g, 0, none⟩)) (hg : Blok V g 47 #[v0, v1, v2, v3, v4, v5, v6, v7, v8, v9, v10, v11, v12, v13, v14, v15]) :
    (results fn tmps).run Try.prog V = .ok (.agg #[v0, v1, v2, v3, v4, v5, v6, v7, v8, v9, v10, v11, v12, v13, v14, v15]) V := by
  have hp' : tmps[p]?.getD undef = .pointer (some ⟨g, 0, none⟩) := by simpa using hp
  have hl := run_loadVar_row (P := Try.prog) V g 47 47 #[v0, v1, v2, v3, v4, v5, v6, v7, v8, v9, v10, v11, v12, v13, v14, v15] (0, 0) _ hg Try.underlying47 rfl (by kernel_rfl)
  simp [results, h, hp', asAddr, hl]

set_option maxRecDepth 100000 in
set_option maxHeartbeats 1000000 in
theorem lay_any (a : Option Addr) (n c : Nat) (l : List W.Tm) (w : World) (h : TIn w a n c l) (hn : n ≤ 1000) (hat : ∀ t ∈ l, 0 ≤ t.2 ∧ t.2 ≤ 1073741824) :
    Calls Try.prog 27 #[.slice a n c] w fun e w' => ∃ vs, e = .returned (.agg vs) ∧ Hid (RowsIn w.heap.size l vs w') ∧ Below w.heap.size w w' := by
  have HT := Lib.hid h
  have HA := Lib.hid hat
  obtain ⟨W1, hW1⟩ : ∃ W1, (w.alloc (.cells zring 47)).alloc (.cells zring 47) = W1 := ⟨_, rfl⟩
  have s0 : (w.alloc (.cells zring 47)).heap.size = w.heap.size + 1 := by simp
  have B1 : Hid (Below w.heap.size w W1) := Lib.hid (by rw [← hW1]; exact ((Below.refl _ w).alloc (Nat.le_refl _) _).alloc (by simp) _)
  have K0 : Hid (Blok W1 w.heap.size 47 zring) := Lib.hid (by rw [← hW1]; exact (Blok.new _ _ _).alloc _)
  have K1 : Hid (Blok W1 (w.heap.size + 1) 47 zring) := Lib.hid (by rw [← hW1, ← s0]; exact Blok.new _ _ _)
  clear h hat s0
  go_enter Try.func27, Try.ntmps27
  go_wp2_with fail
  go_loopw [8] (fun i wr => ∃ (k : Nat) (vs : Array Value), i = .int .i64 k ∧ k ≤ n ∧ Hid (Blok wr (w.heap.size + 1) 47 vs) ∧ Hid (RowsIn w.heap.size (l.take k) vs wr) ∧ Hid (Blok wr w.heap.size 47 zring) ∧ Hid (Below w.heap.size w wr)) (fun i _ => n - (intOf i).toNat)
  case atStart => exact ⟨0, zring, by go_num, by omega, K1, Lib.hid (by simpa using RowsIn.nil _ _), K0, B1⟩
  case round =>
    obtain ⟨k, vs, rfl, hkn, HR, HW, HZ, HB⟩ := hrel
    by_cases hlt : k < n
    · have d1 : decide ((k : Int) < n) = true := by simp; omega
      obtain ⟨b, off, x, rfl, hbl, hx, p1, p2⟩ := (HT.out.below HB.out).at hlt
      have HX := Lib.hid hx
      have k0 : (0 : Int) ≤ k := by omega
      have k1 : (k : Int) < n := by omega
      have TB := Lib.hid (tbox_below wr x)
      have TK := Lib.hid (tbox_blok wr x)
      have b0 := TK.out.b0
      have b1 := TK.out.b1
      have hx2 := HA.out x (List.mem_of_getElem? hx)
      have HLn : (l.take k).length ≤ 1000 := by simp; omega
      have hp := put_any w.heap.size (w.heap.size + 1) (l.take k) x vs (tbox wr x) (HR.out.on' TB.out) (HW.out.on TB.out) (Nat.le_trans HB.out.size TB.out.size) (Nat.le_succ _) hx2 HLn
      unfold tbox at b0 b1 hp
      clear hx
      go_wp2_with fail
      refine hp.mono ?_
      rintro e w3 ⟨rfl, vs', HR3, HW3, HO3, HB3⟩
      clear hp b0 b1 p1 p2
      have HZ3 : Hid (Blok w3 w.heap.size 47 zring) := Lib.hid (HO3.out _ _ _ (HZ.out.on' TB.out) (by decide) (by simp))
      have HB4 : Hid (Below w.heap.size w w3) := Lib.hid ((HB.out.trans (TB.out.mono HB.out.size)).trans HB3.out)
      have HT3 : Hid (RowsIn w.heap.size (l.take (k + 1)) vs' w3) := Lib.hid (by
        obtain ⟨g1, g2⟩ := List.getElem?_eq_some_iff.1 HX.out
        rw [List.take_succ_eq_append_getElem g1, g2]; exact HW3.out)
      go_wp2
      go_roundw
      case rel => exact ⟨k + 1, vs', by go_num, by omega, HR3, HT3, HZ3, HB4⟩
      case measure => simp [intOf] <;> omega
    · have d1 : decide ((k : Int) < n) = false := by simp; omega
      have htk : l.take k = l := List.take_of_length_le (by rw [HT.out.1]; omega)
      rw [htk] at HW
      obtain ⟨a0, n0, c0, a1, n1, c1, a2, n2, c2, a3, n3, c3, a4, n4, c4, a5, n5, c5, a6, n6, c6, a7, n7, c7, a8, n8, c8, a9, n9, c9, a10, n10, c10, a11, n11, c11, a12, n12, c12, a13, n13, c13, a14, n14, c14, a15, n15, c15, rfl⟩ := HW.out.letters
      have r0 : wr.cell? ⟨w.heap.size + 1, 0, none⟩ = some (.slice a0 n0 c0) := HR.out.cell 0
      have r1 : wr.cell? ⟨w.heap.size + 1, 1, none⟩ = some (.slice a1 n1 c1) := HR.out.cell 1
      have r2 : wr.cell? ⟨w.heap.size + 1, 2, none⟩ = some (.slice a2 n2 c2) := HR.out.cell 2
      have r3 : wr.cell? ⟨w.heap.size + 1, 3, none⟩ = some (.slice a3 n3 c3) := HR.out.cell 3
      have r4 : wr.cell? ⟨w.heap.size + 1, 4, none⟩ = some (.slice a4 n4 c4) := HR.out.cell 4
      have r5 : wr.cell? ⟨w.heap.size + 1, 5, none⟩ = some (.slice a5 n5 c5) := HR.out.cell 5
      have r6 : wr.cell? ⟨w.heap.size + 1, 6, none⟩ = some (.slice a6 n6 c6) := HR.out.cell 6
      have r7 : wr.cell? ⟨w.heap.size + 1, 7, none⟩ = some (.slice a7 n7 c7) := HR.out.cell 7
      have r8 : wr.cell? ⟨w.heap.size + 1, 8, none⟩ = some (.slice a8 n8 c8) := HR.out.cell 8
      have r9 : wr.cell? ⟨w.heap.size + 1, 9, none⟩ = some (.slice a9 n9 c9) := HR.out.cell 9
      have r10 : wr.cell? ⟨w.heap.size + 1, 10, none⟩ = some (.slice a10 n10 c10) := HR.out.cell 10
      have r11 : wr.cell? ⟨w.heap.size + 1, 11, none⟩ = some (.slice a11 n11 c11) := HR.out.cell 11
      have r12 : wr.cell? ⟨w.heap.size + 1, 12, none⟩ = some (.slice a12 n12 c12) := HR.out.cell 12
      have r13 : wr.cell? ⟨w.heap.size + 1, 13, none⟩ = some (.slice a13 n13 c13) := HR.out.cell 13
      have r14 : wr.cell? ⟨w.heap.size + 1, 14, none⟩ = some (.slice a14 n14 c14) := HR.out.cell 14
      have r15 : wr.cell? ⟨w.heap.size + 1, 15, none⟩ = some (.slice a15 n15 c15) := HR.out.cell 15
      have z0 : wr.cell? ⟨w.heap.size, 0, none⟩ = some (.slice none 0 0) := HZ.out.cell 0
      have f0 := HZ.out.frozen 0
      have z1 : wr.cell? ⟨w.heap.size, 1, none⟩ = some (.slice none 0 0) := HZ.out.cell 1
      have f1 := HZ.out.frozen 1
      have z2 : wr.cell? ⟨w.heap.size, 2, none⟩ = some (.slice none 0 0) := HZ.out.cell 2
      have f2 := HZ.out.frozen 2
      have z3 : wr.cell? ⟨w.heap.size, 3, none⟩ = some (.slice none 0 0) := HZ.out.cell 3
      have f3 := HZ.out.frozen 3
      have z4 : wr.cell? ⟨w.heap.size, 4, none⟩ = some (.slice none 0 0) := HZ.out.cell 4
      have f4 := HZ.out.frozen 4
      have z5 : wr.cell? ⟨w.heap.size, 5, none⟩ = some (.slice none 0 0) := HZ.out.cell 5
      have f5 := HZ.out.frozen 5
      have z6 : wr.cell? ⟨w.heap.size, 6, none⟩ = some (.slice none 0 0) := HZ.out.cell 6
      have f6 := HZ.out.frozen 6
      have z7 : wr.cell? ⟨w.heap.size, 7, none⟩ = some (.slice none 0 0) := HZ.out.cell 7
      have f7 := HZ.out.frozen 7
      have z8 : wr.cell? ⟨w.heap.size, 8, none⟩ = some (.slice none 0 0) := HZ.out.cell 8
      have f8 := HZ.out.frozen 8
      have z9 : wr.cell? ⟨w.heap.size, 9, none⟩ = some (.slice none 0 0) := HZ.out.cell 9
      have f9 := HZ.out.frozen 9
      have z10 : wr.cell? ⟨w.heap.size, 10, none⟩ = some (.slice none 0 0) := HZ.out.cell 10
      have f10 := HZ.out.frozen 10
      have z11 : wr.cell? ⟨w.heap.size, 11, none⟩ = some (.slice none 0 0) := HZ.out.cell 11
      have f11 := HZ.out.frozen 11
      have z12 : wr.cell? ⟨w.heap.size, 12, none⟩ = some (.slice none 0 0) := HZ.out.cell 12
      have f12 := HZ.out.frozen 12
      have z13 : wr.cell? ⟨w.heap.size, 13, none⟩ = some (.slice none 0 0) := HZ.out.cell 13
      have f13 := HZ.out.frozen 13
      have z14 : wr.cell? ⟨w.heap.size, 14, none⟩ = some (.slice none 0 0) := HZ.out.cell 14
      have f14 := HZ.out.frozen 14
      have z15 : wr.cell? ⟨w.heap.size, 15, none⟩ = some (.slice none 0 0) := HZ.out.cell 15
      have f15 := HZ.out.frozen 15
      obtain ⟨W9, hW9⟩ : ∃ W9, ((((((((((((((((wr.setCell ⟨w.heap.size, 0, none⟩ (.slice a0 n0 c0)).setCell ⟨w.heap.size, 1, none⟩ (.slice a1 n1 c1)).setCell ⟨w.heap.size, 2, none⟩ (.slice a2 n2 c2)).setCell ⟨w.heap.size, 3, none⟩ (.slice a3 n3 c3)).setCell ⟨w.heap.size, 4, none⟩ (.slice a4 n4 c4)).setCell ⟨w.heap.size, 5, none⟩ (.slice a5 n5 c5)).setCell ⟨w.heap.size, 6, none⟩ (.slice a6 n6 c6)).setCell ⟨w.heap.size, 7, none⟩ (.slice a7 n7 c7)).setCell ⟨w.heap.size, 8, none⟩ (.slice a8 n8 c8)).setCell ⟨w.heap.size, 9, none⟩ (.slice a9 n9 c9)).setCell ⟨w.heap.size, 10, none⟩ (.slice a10 n10 c10)).setCell ⟨w.heap.size, 11, none⟩ (.slice a11 n11 c11)).setCell ⟨w.heap.size, 12, none⟩ (.slice a12 n12 c12)).setCell ⟨w.heap.size, 13, none⟩ (.slice a13 n13 c13)).setCell ⟨w.heap.size, 14, none⟩ (.slice a14 n14 c14)).setCell ⟨w.heap.size, 15, none⟩ (.slice a15 n15 c15)) = W9 := ⟨_, rfl⟩
      have HZ9 : Hid (Blok W9 w.heap.size 47 #[.slice a0 n0 c0, .slice a1 n1 c1, .slice a2 n2 c2, .slice a3 n3 c3, .slice a4 n4 c4, .slice a5 n5 c5, .slice a6 n6 c6, .slice a7 n7 c7, .slice a8 n8 c8, .slice a9 n9 c9, .slice a10 n10 c10, .slice a11 n11 c11, .slice a12 n12 c12, .slice a13 n13 c13, .slice a14 n14 c14, .slice a15 n15 c15]) := Lib.hid (by
        have := ((((((((((((((((HZ.out.set 0 (.slice a0 n0 c0)).set 1 (.slice a1 n1 c1)).set 2 (.slice a2 n2 c2)).set 3 (.slice a3 n3 c3)).set 4 (.slice a4 n4 c4)).set 5 (.slice a5 n5 c5)).set 6 (.slice a6 n6 c6)).set 7 (.slice a7 n7 c7)).set 8 (.slice a8 n8 c8)).set 9 (.slice a9 n9 c9)).set 10 (.slice a10 n10 c10)).set 11 (.slice a11 n11 c11)).set 12 (.slice a12 n12 c12)).set 13 (.slice a13 n13 c13)).set 14 (.slice a14 n14 c14)).set 15 (.slice a15 n15 c15))
        rw [hW9] at this
        simpa using this)
      have G9 : Hid (wr.grownBy W9 (some w.heap.size)) := Lib.hid (by
        rw [← hW9]
        exact (((((((((((((((grown_set _ _ _ _).trans (grown_set _ _ _ _)).trans (grown_set _ _ _ _)).trans (grown_set _ _ _ _)).trans (grown_set _ _ _ _)).trans (grown_set _ _ _ _)).trans (grown_set _ _ _ _)).trans (grown_set _ _ _ _)).trans (grown_set _ _ _ _)).trans (grown_set _ _ _ _)).trans (grown_set _ _ _ _)).trans (grown_set _ _ _ _)).trans (grown_set _ _ _ _)).trans (grown_set _ _ _ _)).trans (grown_set _ _ _ _)).trans (grown_set _ _ _ _))
      have HB9 : Hid (Below w.heap.size w W9) := Lib.hid (HB.out.grown G9.out HB.out.size (fun j hj => by cases hj; exact Nat.le_refl _))
      have HW9 : Hid (RowsIn w.heap.size l #[.slice a0 n0 c0, .slice a1 n1 c1, .slice a2 n2 c2, .slice a3 n3 c3, .slice a4 n4 c4, .slice a5 n5 c5, .slice a6 n6 c6, .slice a7 n7 c7, .slice a8 n8 c8, .slice a9 n9 c9, .slice a10 n10 c10, .slice a11 n11 c11, .slice a12 n12 c12, .slice a13 n13 c13, .slice a14 n14 c14, .slice a15 n15 c15] W9) := Lib.hid ⟨rfl, fun j hj => (HW.out.2.1 j hj).kept G9.out (by
        cases hv : (#[.slice a0 n0 c0, .slice a1 n1 c1, .slice a2 n2 c2, .slice a3 n3 c3, .slice a4 n4 c4, .slice a5 n5 c5, .slice a6 n6 c6, .slice a7 n7 c7, .slice a8 n8 c8, .slice a9 n9 c9, .slice a10 n10 c10, .slice a11 n11 c11, .slice a12 n12 c12, .slice a13 n13 c13, .slice a14 n14 c14, .slice a15 n15 c15] : Array Value)[j]!.ownBlock with
        | none => exact .inl rfl
        | some g' => exact .inr (fun e => ownT_ne (HW.out.2.1 j hj) HZ.out (by decide) hv (Option.some.inj e).symm)), HW.out.2.2⟩
      go_wp2_with fail
      refine bodyPost_ret (ret_ring rfl w.heap.size _ _ _ _ _ _ _ _ _ _ _ _ _ _ _ _ (by kernel_rfl) HZ9.out) rfl ?_
      exact ⟨_, rfl, HW9, HB9.out⟩
end Go.Proofs.Ytmegkfonodcoiaa
