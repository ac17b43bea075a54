/-
  Walks of moorings/vari.Get and moorings/mooringsref01.Get: the number that stands at a place of bytes, and the place behind it. For every slice and every place.
-/
import Derived.Test.YthedkcbkalifgaaPut
import Derived.WalkMore
import Derived.OpenShut
import Derived.Deep.LoopGhost
namespace Go.Proofs.Ythedkcbkalifgaa
open Go.RowKit

/-- What the walk is told of a slice of integers: it is nil; or it leads to a row of 'cap' cells, the numbers 'zs' (the first 'len' are its elements, the rest its spare room), each fitting its kind. -/
def IsRow (k : IntKind) (w : World) (a : Option Addr) (len cap : Nat) (zs : List Int) : Prop :=
  (a = none ∧ len = 0 ∧ cap = 0 ∧ zs = []) ∨
  ∃ x, a = some x ∧ len ≤ cap ∧ cap ≤ maxLen ∧ zs.length = cap ∧ (∀ i, i < zs.length → w.cell? (x.add i) = some (.int k (zs.getD i 0))) ∧ ∀ n ∈ zs, (Lit.int k n).wf = true

/-- What Get returns. -/
def GetIs (L : List Int) (p : Int) (w : World) (e : Ending) (w' : World) : Prop :=
  e = .returned (.tuple #[.int .i64 (M.get L p).1, .int .i64 (M.get L p).2]) ∧ w = w'

theorem GetIs.mk {L : List Int} {p n q : Int} {w : World} (h : M.get L p = (n, q)) : GetIs L p w (.returned (.tuple #[.int .i64 n, .int .i64 q])) w := by
  unfold GetIs; rw [h]; exact ⟨rfl, rfl⟩

theorem head_nil : M.head [] = none := rfl
theorem get_neg {L : List Int} {p : Int} (h : p < 0) : M.get L p = (0, -1) := by unfold M.get; rw [if_pos h]
theorem get_none {L : List Int} {q : Nat} (h : M.head (L.drop q) = none) : M.get L q = (0, -1) := by
  unfold M.get; rw [if_neg (by omega)]; simp [h]
theorem get_some {L : List Int} {q : Nat} {n : Int} {e : Nat} (h : M.head (L.drop q) = some (n, e)) : M.get L q = (n, (q : Int) + e) := by
  unfold M.get; rw [if_neg (by omega)]; simp [h]

theorem getR_neg (a : Option Addr) (len cap : Nat) (p : Int) (L : List Int) (w : World) (h : p < 0) :
    Calls Try.prog 10 #[.slice a len cap, .int .i64 p] w (GetIs L p w) := by
  have hg := Lib.hid (get_neg (L := L) h)
  go_enter Try.func10, Try.ntmps10
  go_wp2
  go_step3
  go_wp2
  all_goals (try rw [Exit.noGoto_ret])
  go_ret2
  exact .mk hg.out

theorem get_end (a : Option Addr) (len cap : Nat) (q : Nat) (L : List Int) (w : World) (hl : L.length ≤ len) (h : len ≤ q) :
    Calls Try.prog 10 #[.slice a len cap, .int .i64 q] w (GetIs L q w) := by
  have hg := Lib.hid (get_none (L := L) (q := q) (by rw [List.drop_eq_nil_of_le (by omega)]; rfl))
  have hd : decide ((q : Int) < len) = false := by simp; omega
  go_enter Try.func10, Try.ntmps10
  go_wp2
  go_step3
  go_wp2
  go_step3
  go_wp2
  refine wp_loop_rounds 1 ?_
  rw [rounds_succ]
  go_wp2
  (try rw [Exit.noGoto_ret])
  go_ret2
  exact .mk hg.out

theorem take_drop_cons {zs : List Int} {len k : Nat} (hk : k < len) (hz : len ≤ zs.length) : (zs.take len).drop k = zs.getD k 0 :: (zs.take len).drop (k + 1) := by
  have h1 : k < (zs.take len).length := by simp; omega
  rw [List.drop_eq_getElem_cons h1]
  congr 1
  have h2 : k < zs.length := by omega
  simp [List.getElem_take, h2]

/-- How far the reading has come: j digits of the number at q, up to the place k. -/
def At (L : List Int) (q j k : Nat) (acc u : Int) : Prop :=
  k = q + j ∧ u = 128 ^ j ∧ M.head (L.drop q) = (M.dig (6 - j) (decide (j = 0)) acc u (L.drop k)).map fun p => (p.1, p.2 + j)

theorem At.start (L : List Int) (q : Nat) : At L q 0 q 0 1 := ⟨rfl, rfl, by unfold M.head; simp⟩
theorem At.step {L : List Int} {q j k : Nat} {acc u c : Int} (h : At L q j k acc u) (hj : j < 6) (hd : L.drop k = c :: L.drop (k + 1)) (hc : 128 ≤ c) : At L q (j + 1) (k + 1) (acc + c % 128 * u) (u * 128) := by
  obtain ⟨h1, h2, h3⟩ := h
  refine ⟨by omega, by rw [h2, Int.pow_succ], ?_⟩
  rw [h3, hd]
  obtain ⟨i, hi⟩ : ∃ i, 6 - j = i + 1 := ⟨5 - j, by omega⟩
  have hi' : 6 - (j + 1) = i := by omega
  rw [hi, hi', M.dig, if_pos hc, Option.map_map, show decide (j + 1 = 0) = false by simp]
  congr 1
  funext p
  simp [Nat.add_assoc, Nat.add_comm 1 j]
theorem At.over {L : List Int} {q j k : Nat} {acc u : Int} (h : At L q j k acc u) (hj : 6 ≤ j) : M.get L q = (0, -1) := by
  refine get_none ?_
  rw [h.2.2, show 6 - j = 0 by omega]; rfl
theorem At.eob {L : List Int} {q j k : Nat} {acc u : Int} (h : At L q j k acc u) (hk : L.length ≤ k) : M.get L q = (0, -1) := by
  refine get_none ?_
  rw [h.2.2, List.drop_eq_nil_of_le hk]
  cases h6 : 6 - j <;> rfl
theorem At.bad {L : List Int} {q j k : Nat} {acc u c : Int} (h : At L q j k acc u) (hd : L.drop k = c :: L.drop (k + 1)) (hc : c < 128) (hb : (c = 0 ∧ q < k) ∨ 1099511627776 < acc + c % 128 * u) : M.get L q = (0, -1) := by
  refine get_none ?_
  obtain ⟨h1, h2, h3⟩ := h
  rw [h3, hd]
  cases h6 : 6 - j with
  | zero => rfl
  | succ i =>
    rw [M.dig, if_neg (by omega), if_pos]
    · rfl
    · rcases hb with ⟨h0, hq⟩ | hb
      · exact .inl ⟨h0, by simp; omega⟩
      · exact .inr hb
theorem At.good {L : List Int} {q j k : Nat} {acc u c : Int} (h : At L q j k acc u) (hj : j < 6) (hd : L.drop k = c :: L.drop (k + 1)) (hc : c < 128) (hb : ¬ ((c = 0 ∧ q < k) ∨ 1099511627776 < acc + c % 128 * u)) : M.get L q = (acc + c % 128 * u, (k : Int) + 1) := by
  obtain ⟨h1, h2, h3⟩ := h
  obtain ⟨i, hi⟩ : ∃ i, 6 - j = i + 1 := ⟨5 - j, by omega⟩
  have hh : M.head (L.drop q) = some (acc + c % 128 * u, 1 + j) := by
    rw [h3, hd, hi, M.dig, if_neg (by omega), if_neg]
    · rfl
    · rintro (⟨h0, hq⟩ | hb')
      · exact hb (.inl ⟨h0, by simp at hq; omega⟩)
      · exact hb (.inr hb')
  rw [get_some hh]
  congr 1
  omega

theorem At.unit {L : List Int} {q j k : Nat} {acc u : Int} (h : At L q j k acc u) (hj : j ≤ 6) : 1 ≤ u ∧ (j < 6 → u ≤ 34359738368) ∧ (j = 6 → u = 4398046511104) ∧ u ≤ 4398046511104 := by
  obtain ⟨_, rfl, _⟩ := h
  have : j = 0 ∨ j = 1 ∨ j = 2 ∨ j = 3 ∨ j = 4 ∨ j = 5 ∨ j = 6 := by omega
  rcases this with rfl | rfl | rfl | rfl | rfl | rfl | rfl <;> simp

theorem prod_bd {c u : Int} (hu : 1 ≤ u) : 0 ≤ c % 128 * u ∧ c % 128 * u ≤ 127 * u :=
  ⟨Int.mul_nonneg (by omega) (by omega), Int.mul_le_mul_of_nonneg_right (by omega) (by omega)⟩

set_option maxRecDepth 100000 in
set_option maxHeartbeats 1000000 in
theorem get_in (b off len cap q : Nat) (zs : List Int) (w : World) (hz : len ≤ zs.length) (hm : len ≤ 9223372036854775807) (hq : q < len)
    (hcells : ∀ i, i < zs.length → w.cell? ⟨b, off + i, none⟩ = some (.int .u8 (zs.getD i 0))) (hby : ∀ n ∈ zs, (Lit.int .u8 n).wf = true) :
    Calls Try.prog 10 #[.slice (some ⟨b, off, none⟩) len cap, .int .i64 q] w (GetIs (zs.take len) q w) := by
  have hq0 : ¬ ((q : Int) < 0) := by omega
  go_enter Try.func10, Try.ntmps10
  go_wp2
  go_step3
  go_wp2
  go_step3
  go_wp2
  go_loop [6, 7, 8] (fun x y i => ∃ (j k : Nat) (acc u : Int), i = .int .i64 k ∧ x = .int .i64 acc ∧ y = .int .i64 u ∧ k ≤ len ∧ j ≤ 6 ∧ 0 ≤ acc ∧ acc < u ∧ Hid (At (zs.take len) q j k acc u)) (fun _ _ i => len - (intOf i).toNat)
  case atStart => exact ⟨0, q, 0, 1, rfl, rfl, rfl, by omega, by omega, by omega, by omega, Lib.hid (At.start _ _)⟩
  case round =>
    obtain ⟨j, k, acc, u, rfl, rfl, rfl, hk, hj, ha0, hau, HA⟩ := hrel
    obtain ⟨hu1, hu5, hu6, hu7⟩ := HA.out.unit hj
    by_cases hlt : k < len
    · have hdr := Lib.hid (take_drop_cons hlt hz)
      obtain ⟨c, hcc⟩ : ∃ c, zs.getD k 0 = c := ⟨_, rfl⟩
      have hcell := hcells k (by omega)
      have hcm : c ∈ zs := by rw [← hcc]; simp [show k < zs.length by omega]
      rw [hcc] at hcell
      have hdr := Lib.hid (by have := take_drop_cons hlt hz; rw [hcc] at this; exact this)
      obtain ⟨hc0, hc1⟩ := bounds_u8 (hby c hcm)
      clear hcc hcm
      obtain ⟨hp0, hp1⟩ := prod_bd (c := c) hu1
      by_cases hj6 : j < 6
      · have hu2 := hu5 hj6
        clear hu5 hu6 hu7
        by_cases hc : 128 ≤ c
        · have hd1 : decide (128 ≤ c) = true := by simpa using hc
          go_wp2
          go_round
          case rel => exact ⟨j + 1, k + 1, acc + c % 128 * u, u * 128, by go_num, rfl, rfl, by omega, by omega, by omega, by omega, Lib.hid (HA.out.step hj6 hdr.out hc)⟩
          case measure => simp [intOf]; omega
        · have hc' : c < 128 := by omega
          have hd1 : decide (128 ≤ c) = false := by simpa using hc
          by_cases hb : (c = 0 ∧ q < k) ∨ 1099511627776 < acc + c % 128 * u
          · have HB := Lib.hid (HA.out.bad hdr.out hc' hb)
            by_cases h0 : c = 0 ∧ q < k
            · have e1 : (c == 0) = true := by simpa using h0.1
              have e2 : q < k := h0.2
              clear h0 hb
              go_wp2
              (try rw [Exit.noGoto_ret])
              go_ret2
              exact .mk HB.out
            · have e3 : 1099511627776 < acc + c % 128 * u := by omega
              clear hb
              by_cases e1 : c = 0
              · have e2 : decide (q < k) = false := by simp; omega
                have e1' : (c == 0) = true := by simpa using e1
                clear h0 e1
                go_wp2
                (try rw [Exit.noGoto_ret])
                go_ret2
                exact .mk HB.out
              · have e1' : (c == 0) = false := by simpa using e1
                clear h0 e1
                go_wp2
                (try rw [Exit.noGoto_ret])
                go_ret2
                exact .mk HB.out
          · have HB := Lib.hid (HA.out.good hj6 hdr.out hc' hb)
            have e3 : decide (1099511627776 < acc + c % 128 * u) = false := by simp; omega
            by_cases e1 : c = 0
            · have e2 : decide (q < k) = false := by simp; omega
              have e1' : (c == 0) = true := by simpa using e1
              clear e1 hb
              go_wp2
              (try rw [Exit.noGoto_ret])
              go_ret2
              exact .mk HB.out
            · have e1' : (c == 0) = false := by simpa using e1
              clear e1 hb
              go_wp2
              (try rw [Exit.noGoto_ret])
              go_ret2
              exact .mk HB.out
      · have hj' : j = 6 := by omega
        have HB := Lib.hid (HA.out.over (by omega))
        have hu8 := hu6 hj'
        have hd : decide (u ≤ 1099511627776) = false := by simp; omega
        clear hj' hu6 hu5 hj6 hu8
        go_wp2
        (try rw [Exit.noGoto_ret])
        go_ret2
        exact .mk HB.out
    · have HB := Lib.hid (HA.out.eob (by simp; omega))
      have hd : decide (k < len) = false := by simp; omega
      clear hu5 hu6
      go_wp2
      (try rw [Exit.noGoto_ret])
      go_ret2
      exact .mk HB.out
end Go.Proofs.Ythedkcbkalifgaa
