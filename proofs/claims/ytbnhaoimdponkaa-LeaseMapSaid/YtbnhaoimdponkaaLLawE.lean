/-
  LeaseMap.
-/
import Derived.Test.YtbnhaoimdponkaaLSrt
import Derived.Test.YtbnhaoimdponkaaLMapF
namespace Go.Proofs.Ytbnhaoimdponkaa
open Go.RowKit

theorem L.isOf_snoc {at' blk : Int} {k : List L.T3} {j : Nat} {x : L.T3} (hx : k[j]? = some x) : (k.take (j + 1)).any (L.isOf at' blk) = ((k.take j).any (L.isOf at' blk) || ((x.a == at') && (x.b == blk))) := by
  rw [L.take_snoc hx, List.any_append]
  congr 1
  simp only [List.any_cons, List.any_nil, Bool.or_false]
  rw [Bool.eq_iff_iff, L.isOf_iff]; simp
set_option maxRecDepth 100000 in
set_option maxHeartbeats 2000000 in
theorem LeaseMap_in (x : E.D) (a1 a2 : Option Addr) (n1 n2 c1 c2 : Nat) (l1 : List L.Ls) (l2 : List L.T3) (at' blk : Int) (w : World) (h1 : RIn w a1 n1 c1 l1) (h2 : RIn w a2 n2 c2 l2) (hb0 : x.b ≤ 9223372036854775807) (hc0 : x.c ≤ 9223372036854775807) :
    Calls Try.prog 5 #[.agg #[.int .i64 x.b, .int .i64 x.k, .int .i64 x.c, .int .i64 x.j, .int .i64 x.lo, .int .i64 x.hi, .int .i64 x.dy, .int .i64 x.bl], .slice a1 n1 c1, .slice a2 n2 c2, .int .i64 at', .int .i64 blk] w fun e w' => e = .returned (.bool true) ∧ Below w.heap.size w w' := by
  obtain ⟨Z, hZ⟩ : ∃ W, ebox w x = W := ⟨_, rfl⟩
  have B0 : Below w.heap.size w Z := by rw [← hZ]; exact ebox_below w x
  have KE : Blok Z w.heap.size 40 #[.int .i64 x.b, .int .i64 x.k, .int .i64 x.c, .int .i64 x.j, .int .i64 x.lo, .int .i64 x.hi, .int .i64 x.dy, .int .i64 x.bl] := by rw [← hZ]; exact ebox_blok w x
  have HB0 := Lib.hid B0
  have HE0 := Lib.hid KE
  have HT10 := Lib.hid (h1.below B0)
  have HT20 := Lib.hid (h2.below B0)
  have hl1 := h1.1
  have hl2 := h2.1
  obtain ⟨f1, hf1⟩ : ∃ b, (decide (n1 ≤ 40) && decide (n2 ≤ 40)) = b := ⟨_, rfl⟩
  have HF1 := Lib.hid hf1
  unfold ebox at hZ
  clear h1 h2 B0 KE hf1
  go_enter Try.func5, Try.ntmps5
  go_wp2_with fail
  refine (lawake_any Z).mono ?_
  rintro e w1 ⟨rfl, hb⟩
  have HT11 := Lib.hid (HT10.out.below hb)
  have HT21 := Lib.hid (HT20.out.below hb)
  have HE1 := Lib.hid (HE0.out.below hb HE0.out.lt)
  have HB1 := Lib.hid (HB0.out.trans (hb.mono HB0.out.size))
  clear hb HT10 HT20 HE0 HB0 hZ
  go_wp2_with fail
  refine (few_any a1 a2 n1 n2 c1 c2 f1 HF1.out w1).mono ?_
  rintro e w2 ⟨rfl, hb⟩
  have HT12 := Lib.hid (HT11.out.below hb)
  have HT22 := Lib.hid (HT21.out.below hb)
  have HE2 := Lib.hid (HE1.out.below hb HE1.out.lt)
  have HB2 := Lib.hid (HB1.out.trans (hb.mono HB1.out.size))
  clear hb HT11 HT21 HE1 HB1
  cases f1 with
  | false =>
    go_wp2
    go_ret
    exact ⟨rfl, HB2.out⟩
  | true =>
    have hn1 : n1 ≤ 40 := by have := HF1.out; simp at this; exact this.1
    have hn2 : n2 ≤ 40 := by have := HF1.out; simp at this; exact this.2
    obtain ⟨N, hN⟩ : ∃ q, U.newN (E.nb x) = q := ⟨_, rfl⟩
    obtain ⟨u, hu⟩ : ∃ q, L.uses N at' 0 (l1.map L.had) = q := ⟨_, rfl⟩
    obtain ⟨v, hv⟩ : ∃ q, L.uses N at' u l2 = q := ⟨_, rfl⟩
    have cm := map_any x a1 a2 n1 n2 c1 c2 l1 l2 at' N u v hN hu hv w2 HT12.out HT22.out (by omega) (by omega) hb0 hc0
    have HMAY := Lib.hid (L.map_may hN hu hv)
    have HHAS : Hid (0 ≤ blk → blk < N → U.has N v blk = (decide (0 ≤ L.find l1 at' blk) || l2.any (L.isOf at' blk))) := Lib.hid (fun e0 e1 => L.map_has hN hu hv e0 e1)
    have HFST : Hid (∀ f, U.first N v = f → 0 ≤ f → L.find l1 at' f = -1) := Lib.hid (fun f hf h0 => L.map_first hN hu hv hf h0)
    clear hN hu hv
    have i0 : w2.cell? ⟨w.heap.size, 0, none⟩ = some (.int .i64 x.b) := HE2.out.cell 0
    have i1 : w2.cell? ⟨w.heap.size, 1, none⟩ = some (.int .i64 x.k) := HE2.out.cell 1
    have i2 : w2.cell? ⟨w.heap.size, 2, none⟩ = some (.int .i64 x.c) := HE2.out.cell 2
    have i3 : w2.cell? ⟨w.heap.size, 3, none⟩ = some (.int .i64 x.j) := HE2.out.cell 3
    have i4 : w2.cell? ⟨w.heap.size, 4, none⟩ = some (.int .i64 x.lo) := HE2.out.cell 4
    have i5 : w2.cell? ⟨w.heap.size, 5, none⟩ = some (.int .i64 x.hi) := HE2.out.cell 5
    have i6 : w2.cell? ⟨w.heap.size, 6, none⟩ = some (.int .i64 x.dy) := HE2.out.cell 6
    have i7 : w2.cell? ⟨w.heap.size, 7, none⟩ = some (.int .i64 x.bl) := HE2.out.cell 7
    go_wp2_with fail
    refine cm.mono ?_
    rintro e w3 ⟨rfl, hb⟩
    have HT13 := Lib.hid (HT12.out.below hb)
    have HT23 := Lib.hid (HT22.out.below hb)
    have HB3 := Lib.hid (HB2.out.trans (hb.mono HB2.out.size))
    clear hb HT12 HT22 HE2 HB2 cm i0 i1 i2 i3 i4 i5 i6 i7
    obtain ⟨W4, hW4⟩ : ∃ W, w3.alloc (.cells #[.int .i64 N, .int .i64 v] 42) = W := ⟨_, rfl⟩
    have B4 : Below w3.heap.size w3 W4 := by rw [← hW4]; exact (Below.refl _ w3).alloc (Nat.le_refl _) _
    have HU4 : Hid (Blok W4 w3.heap.size 42 #[.int .i64 N, .int .i64 v]) := Lib.hid (by rw [← hW4]; exact Blok.new w3 _ _)
    have HT14 := Lib.hid (HT13.out.below B4)
    have HT24 := Lib.hid (HT23.out.below B4)
    have HB4 := Lib.hid (HB3.out.trans (B4.mono HB3.out.size))
    have HW4 := Lib.hid hW4
    clear B4 hW4 HT13 HT23 HB3
    go_upto_region 6 with fail
    rw [HW4.out]
    go_wp2_with fail
    go_loopw [14, 15] (fun s14 s15 wr => ∃ i : Nat, s14 = .bool ((l2.take i).any (L.isOf at' blk)) ∧ s15 = .int .i64 i ∧ i ≤ n2 ∧ wr = W4) (fun _ s15 _ => n2 - (intOf s15).toNat)
    case atStart => exact ⟨0, by simp, rfl, by omega, rfl⟩
    case round =>
      obtain ⟨i, rfl, rfl, hi, hwr⟩ := hrel
      subst hwr
      by_cases hlt : i < n2
      · have di : decide ((i : Int) < n2) = true := by simp; omega
        obtain ⟨b, off, y, hay, hbl, hy, p0, p1, p2⟩ := HT24.out.at3 hlt
        subst hay
        have j0 : (0 : Int) ≤ i := by omega
        have j1 : (i : Int) < n2 := by omega
        have HAN := Lib.hid (L.isOf_snoc (at' := at') (blk := blk) hy)
        obtain ⟨t, ht⟩ : ∃ t, ((l2.take i).any (L.isOf at' blk)) = t := ⟨_, rfl⟩
        obtain ⟨g, hg⟩ : ∃ g, (y.a == at') = g := ⟨_, rfl⟩
        obtain ⟨z, hz⟩ : ∃ z, (y.b == blk) = z := ⟨_, rfl⟩
        rw [ht] at HAN ⊢
        rw [hg, hz] at HAN
        clear hy hbl ht
        cases t with
        | true =>
          go_wp2
          go_roundw
          case rel => exact ⟨i + 1, by rw [HAN.out]; rfl, by go_num, by omega, by first | rfl | trivial⟩
          case measure => simp [intOf] <;> omega
        | false =>
          cases g with
          | false =>
            go_wp2
            go_roundw
            case rel => exact ⟨i + 1, by rw [HAN.out]; rfl, by go_num, by omega, by first | rfl | trivial⟩
            case measure => simp [intOf] <;> omega
          | true =>
            go_wp2
            go_roundw
            case rel => exact ⟨i + 1, by rw [HAN.out]; rfl, by go_num, by omega, by first | rfl | trivial⟩
            case measure => simp [intOf] <;> omega
      · have di : decide ((i : Int) < n2) = false := by simp; omega
        obtain ⟨hd, hhd⟩ : ∃ q, l2.any (L.isOf at' blk) = q := ⟨_, rfl⟩
        have HTK : Hid ((l2.take i).any (L.isOf at' blk) = hd) := Lib.hid (by rw [List.take_of_length_le (by omega)]; exact hhd)
        rw [HTK.out]
        obtain ⟨r, hr⟩ : ∃ r, L.find l1 at' blk = r := ⟨_, rfl⟩
        obtain ⟨p, hp⟩ : ∃ p, decide (0 ≤ r) = p := ⟨_, rfl⟩
        rw [hhd, hr, hp] at HHAS
        have cf := find_any a1 n1 c1 l1 at' blk r hr wr HT14.out (by omega)
        clear hhd HTK hr
        go_wp2_with fail
        refine cf.mono ?_
        rintro e w5 ⟨rfl, hb⟩
        have HT15 := Lib.hid (HT14.out.below hb)
        have HU5 := Lib.hid (HU4.out.below hb HU4.out.lt)
        have HB5 := Lib.hid (HB4.out.trans (hb.mono HB4.out.size))
        clear hb HT14 HT24 HU4 HB4 cf HW4
        obtain ⟨bu, hbu⟩ : ∃ q, w3.heap.size = q := ⟨_, rfl⟩
        rw [hbu] at HU5 ⊢
        clear hbu
        obtain ⟨used, hused⟩ : ∃ q, (p || hd) = q := ⟨_, rfl⟩
        have HHAS2 : Hid (0 ≤ blk → blk < N → U.has N v blk = used) := Lib.hid (by rw [← hused]; exact HHAS.out)
        have HUSED := Lib.hid hused
        clear HHAS hused
        have g0 : w5.cell? ⟨bu, 0, none⟩ = some (.int .i64 N) := HU5.out.cell 0
        have g1 : w5.cell? ⟨bu, 1, none⟩ = some (.int .i64 v) := HU5.out.cell 1
        have cy := umay_any N v true w5 HMAY.out
        cases p <;> cases hd <;> (
          go_wp2_with fail
          refine cy.mono ?_
          rintro e w6 ⟨rfl, hb⟩
          have HT16 := Lib.hid (HT15.out.below hb)
          have HU6 := Lib.hid (HU5.out.below hb HU5.out.lt)
          have HB6 := Lib.hid (HB5.out.trans (hb.mono HB5.out.size))
          clear hb HT15 HU5 HB5 cy g0 g1
          have g0 : w6.cell? ⟨bu, 0, none⟩ = some (.int .i64 N) := HU6.out.cell 0
          have g1 : w6.cell? ⟨bu, 1, none⟩ = some (.int .i64 v) := HU6.out.cell 1
          by_cases hq0 : 0 ≤ blk
          · have q0 : decide (0 ≤ blk) = true := by simpa using hq0
            by_cases hq1 : blk < N
            · have q1 : decide (blk < N) = true := by simpa using hq1
              obtain ⟨us, hus⟩ : ∃ q, used = q := ⟨_, rfl⟩
              have ch := uhas_any N v blk used w6 (HHAS2.out hq0 hq1)
              rw [← HUSED.out] at ch
              go_wp2_with fail
              refine ch.mono ?_
              rintro e w7 ⟨rfl, hb⟩
              have HT17 := Lib.hid (HT16.out.below hb)
              have HU7 := Lib.hid (HU6.out.below hb HU6.out.lt)
              have HB7 := Lib.hid (HB6.out.trans (hb.mono HB6.out.size))
              clear hb HT16 HU6 HB6 ch g0 g1
              have g0 : w7.cell? ⟨bu, 0, none⟩ = some (.int .i64 N) := HU7.out.cell 0
              have g1 : w7.cell? ⟨bu, 1, none⟩ = some (.int .i64 v) := HU7.out.cell 1
              obtain ⟨f, hf⟩ : ∃ f, U.first N v = f := ⟨_, rfl⟩
              have cfi := first_any N v f w7 hf
              have HF := Lib.hid hf
              clear hf
              go_wp2_with fail
              refine cfi.mono ?_
              rintro e w8 ⟨rfl, hb⟩
              have HT18 := Lib.hid (HT17.out.below hb)
              have HB8 := Lib.hid (HB7.out.trans (hb.mono HB7.out.size))
              clear hb HT17 HU7 HB7 cfi g0 g1
              obtain ⟨⟨k1, b1⟩, hk1⟩ : ∃ q, L.put l1 ⟨0, at', f, 0, 0⟩ = q := ⟨_, rfl⟩
              obtain ⟨m1, hm1⟩ : ∃ q, k1.length = q := ⟨_, rfl⟩
              have hb1 : b1 = decide (L.find l1 at' f = -1 ∧ l1.length < 32) := by have h9 := L.put_is l1 ⟨0, at', f, 0, 0⟩; rw [hk1] at h9; exact h9
              have HB1' := Lib.hid hb1
              have cp := put_any a1 n1 c1 l1 k1 ⟨0, at', f, 0, 0⟩ b1 m1 hk1 hm1 w8 HT18.out (by omega)
              unfold L.val at cp
              clear hk1 hm1 hb1
              go_wp2_with fail
              refine cp.mono ?_
              rintro e w9 ⟨a9, c9, rfl, hr9, hb⟩
              have HB9 := Lib.hid (HB8.out.trans (hb.mono HB8.out.size))
              clear hb HT18 HB8 cp hr9
              by_cases hf0 : f < 0
              · have e0 : decide (f < 0) = true := by simpa using hf0
                go_wp2
                go_ret
                exact ⟨rfl, HB9.out⟩
              · have e0 : decide (f < 0) = false := by simpa using hf0
                have hfind := HFST.out f HF.out (by omega)
                have h9 := HB1'.out
                by_cases h32 : n1 < 32
                · obtain rfl : b1 = true := by rw [h9]; exact decide_eq_true ⟨hfind, by omega⟩
                  clear h9 hfind
                  go_wp2
                  go_ret
                  exact ⟨rfl, HB9.out⟩
                · have e1 : decide ((32 : Int) ≤ (n1 : Int)) = true := by simp; omega
                  have e2 : decide (32 ≤ n1) = true := by simp; omega
                  obtain rfl : b1 = false := by rw [h9]; exact decide_eq_false (by omega)
                  clear h9 hfind
                  go_wp2
                  go_ret
                  exact ⟨rfl, HB9.out⟩
            · have q1 : decide (blk < N) = false := by simpa using hq1
              clear g0 g1
              have g0 : w6.cell? ⟨bu, 0, none⟩ = some (.int .i64 N) := HU6.out.cell 0
              have g1 : w6.cell? ⟨bu, 1, none⟩ = some (.int .i64 v) := HU6.out.cell 1
              obtain ⟨f, hf⟩ : ∃ f, U.first N v = f := ⟨_, rfl⟩
              have cfi := first_any N v f w6 hf
              have HF := Lib.hid hf
              clear hf
              go_wp2_with fail
              refine cfi.mono ?_
              rintro e w7 ⟨rfl, hb⟩
              have HT17 := Lib.hid (HT16.out.below hb)
              have HB7 := Lib.hid (HB6.out.trans (hb.mono HB6.out.size))
              clear hb HT16 HU6 HB6 cfi g0 g1
              obtain ⟨⟨k1, b1⟩, hk1⟩ : ∃ q, L.put l1 ⟨0, at', f, 0, 0⟩ = q := ⟨_, rfl⟩
              obtain ⟨m1, hm1⟩ : ∃ q, k1.length = q := ⟨_, rfl⟩
              have hb1 : b1 = decide (L.find l1 at' f = -1 ∧ l1.length < 32) := by have h9 := L.put_is l1 ⟨0, at', f, 0, 0⟩; rw [hk1] at h9; exact h9
              have HB1' := Lib.hid hb1
              have cp := put_any a1 n1 c1 l1 k1 ⟨0, at', f, 0, 0⟩ b1 m1 hk1 hm1 w7 HT17.out (by omega)
              unfold L.val at cp
              clear hk1 hm1 hb1
              go_wp2_with fail
              refine cp.mono ?_
              rintro e w8 ⟨a9, c9, rfl, hr9, hb⟩
              have HB8 := Lib.hid (HB7.out.trans (hb.mono HB7.out.size))
              clear hb HT17 HB7 cp hr9
              by_cases hf0 : f < 0
              · have e0 : decide (f < 0) = true := by simpa using hf0
                go_wp2
                go_ret
                exact ⟨rfl, HB8.out⟩
              · have e0 : decide (f < 0) = false := by simpa using hf0
                have hfind := HFST.out f HF.out (by omega)
                have h9 := HB1'.out
                by_cases h32 : n1 < 32
                · obtain rfl : b1 = true := by rw [h9]; exact decide_eq_true ⟨hfind, by omega⟩
                  clear h9 hfind
                  go_wp2
                  go_ret
                  exact ⟨rfl, HB8.out⟩
                · have e1 : decide ((32 : Int) ≤ (n1 : Int)) = true := by simp; omega
                  have e2 : decide (32 ≤ n1) = true := by simp; omega
                  obtain rfl : b1 = false := by rw [h9]; exact decide_eq_false (by omega)
                  clear h9 hfind
                  go_wp2
                  go_ret
                  exact ⟨rfl, HB8.out⟩
          · have q0 : decide (0 ≤ blk) = false := by simpa using hq0
            clear g0 g1
            have g0 : w6.cell? ⟨bu, 0, none⟩ = some (.int .i64 N) := HU6.out.cell 0
            have g1 : w6.cell? ⟨bu, 1, none⟩ = some (.int .i64 v) := HU6.out.cell 1
            obtain ⟨f, hf⟩ : ∃ f, U.first N v = f := ⟨_, rfl⟩
            have cfi := first_any N v f w6 hf
            have HF := Lib.hid hf
            clear hf
            go_wp2_with fail
            refine cfi.mono ?_
            rintro e w7 ⟨rfl, hb⟩
            have HT17 := Lib.hid (HT16.out.below hb)
            have HB7 := Lib.hid (HB6.out.trans (hb.mono HB6.out.size))
            clear hb HT16 HU6 HB6 cfi g0 g1
            obtain ⟨⟨k1, b1⟩, hk1⟩ : ∃ q, L.put l1 ⟨0, at', f, 0, 0⟩ = q := ⟨_, rfl⟩
            obtain ⟨m1, hm1⟩ : ∃ q, k1.length = q := ⟨_, rfl⟩
            have hb1 : b1 = decide (L.find l1 at' f = -1 ∧ l1.length < 32) := by have h9 := L.put_is l1 ⟨0, at', f, 0, 0⟩; rw [hk1] at h9; exact h9
            have HB1' := Lib.hid hb1
            have cp := put_any a1 n1 c1 l1 k1 ⟨0, at', f, 0, 0⟩ b1 m1 hk1 hm1 w7 HT17.out (by omega)
            unfold L.val at cp
            clear hk1 hm1 hb1
            go_wp2_with fail
            refine cp.mono ?_
            rintro e w8 ⟨a9, c9, rfl, hr9, hb⟩
            have HB8 := Lib.hid (HB7.out.trans (hb.mono HB7.out.size))
            clear hb HT17 HB7 cp hr9
            by_cases hf0 : f < 0
            · have e0 : decide (f < 0) = true := by simpa using hf0
              go_wp2
              go_ret
              exact ⟨rfl, HB8.out⟩
            · have e0 : decide (f < 0) = false := by simpa using hf0
              have hfind := HFST.out f HF.out (by omega)
              have h9 := HB1'.out
              by_cases h32 : n1 < 32
              · obtain rfl : b1 = true := by rw [h9]; exact decide_eq_true ⟨hfind, by omega⟩
                clear h9 hfind
                go_wp2
                go_ret
                exact ⟨rfl, HB8.out⟩
              · have e1 : decide ((32 : Int) ≤ (n1 : Int)) = true := by simp; omega
                have e2 : decide (32 ≤ n1) = true := by simp; omega
                obtain rfl : b1 = false := by rw [h9]; exact decide_eq_false (by omega)
                clear h9 hfind
                go_wp2
                go_ret
                exact ⟨rfl, HB8.out⟩)
end Go.Proofs.Ytbnhaoimdponkaa
