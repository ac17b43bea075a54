/-
  Walks of moorings/addr.Read, ReadAll, at every string of fewer than 4294967281 bytes.
-/
import Derived.Test.YtbaneeedoledoaaDoorANum
import Derived.Test.YtbaneeedoledoaaDoorAPre
import Derived.Laws.BitsLemmas
namespace Go.Proofs.YtbaneeedoledoaaDoor
open Go.RowKit

theorem split_strings (s : ByteArray) : (Lib.splitB (str [46]) 0 (min 5 (s.size + 1) - 1) s).map (·.data.toList) = A.parts s.data.toList := Lib.splitB_data _ _ _ _
theorem shl8_or (a n : Nat) (ha : a < 16777216) (hn : n ≤ 255) : bits .or .i64 ((a : Int) * 256) (n : Int) = ((256 * a + n : Nat) : Int) := by
  have h1 : bits .or .i64 ((256 * a : Nat) : Int) (n : Int) = ((256 * a ||| n : Nat) : Int) := (bits_nat .i64 63 (by decide) (fun n h0 h1 => by rw [IntKind.wrap_i64]; omega) (256 * a) n (by omega) (by omega)).2
  have h2 : 256 * a ||| n = 256 * a + n := by
    have := Nat.two_pow_add_eq_or_of_lt (i := 8) (b := n) (by omega) a
    rw [show (2 : Nat) ^ 8 = 256 from rfl] at this
    exact this.symm
  rw [h2] at h1
  rw [← h1, Int.mul_comm]; rfl

theorem A.acc_pow : ∀ (l : List (List UInt8)) (a : Nat), l.foldl (fun a p => 256 * a + A.nv 255 p) a < (a + 1) * 256 ^ l.length
  | [], a => by simp
  | p :: l, a => by
    have h := A.acc_pow l (256 * a + A.nv 255 p)
    have h2 := A.nv_le 255 p
    have h3 : (256 * a + A.nv 255 p + 1) * 256 ^ l.length ≤ ((a + 1) * 256) * 256 ^ l.length := Nat.mul_le_mul_right _ (by omega)
    rw [List.foldl_cons, List.length_cons, Nat.pow_succ, Nat.mul_comm (256 ^ l.length) 256, ← Nat.mul_assoc]
    omega
theorem A.acc_take (P : List (List UInt8)) (j : Nat) (hj : j < 4) : A.acc (P.take j) < 16777216 := by
  have h := A.acc_pow (P.take j) 0
  have h2 : (P.take j).length ≤ 3 := by rw [List.length_take]; omega
  have h3 : 256 ^ (P.take j).length ≤ 256 ^ 3 := Nat.pow_le_pow_right (by decide) h2
  have h4 : (256 : Nat) ^ 3 = 16777216 := by decide
  unfold A.acc; omega
theorem A.acc_next (P : List (List UInt8)) (j : Nat) (hj : j < P.length) : A.acc (P.take (j + 1)) = 256 * A.acc (P.take j) + A.nv 255 P[j] := by
  rw [List.take_succ_eq_append_getElem hj, A.acc_app]

set_option maxHeartbeats 800000 in
theorem read_any (s : ByteArray) (v : Nat) (d : Bool) (w : World) (hL : Laid w) (hz : s.size < 4294967281) (hv : A.adr s.data.toList = v) (hd : A.isA s.data.toList = d) :
    Calls Tryd.prog 13 #[.string s] w fun e w' => e = .returned (.tuple #[.int .i64 v, .bool d]) ∧ Below w.heap.size w w' := by
  have HV := Lib.hid hv
  have HD := Lib.hid hd
  obtain ⟨m, hm⟩ := hL.1
  have hsp := Tryd.strings_SplitN s (str [46]) 5 m w hz hm (by decide) (by decide) (by decide)
  obtain ⟨L, hLs⟩ : ∃ L, Lib.splitB (str [46]) 0 (min 5 (s.size + 1) - 1) s = L := ⟨_, rfl⟩
  have hpp := split_strings s
  rw [hLs] at hsp hpp
  obtain ⟨c, hc⟩ : ∃ c, min 5 (s.size + 1) = c := ⟨_, rfl⟩
  have hLc : L.length ≤ c := by rw [← hLs, ← hc]; have := Lib.splitB_length_le (str [46]) 0 (min 5 (s.size + 1) - 1) s; omega
  have hc5 : c ≤ 5 := by omega
  rw [hc] at hsp
  have HPP := Lib.hid hpp
  clear hv hd hL hm hLs hc hz hpp
  go_enter Tryd.func13, Tryd.ntmps13
  go_wp2_with fail
  refine hsp.mono ?_
  rintro e w1 ⟨rfl, hw1⟩
  have HK : Hid (Blok w1 w.heap.size 9 (Lib.cellsOf L c)) := Lib.hid (by rw [hw1]; exact Blok.new w _ _)
  have HB : Hid (Below w.heap.size w w1) := Lib.hid (by rw [hw1]; exact (Below.refl _ w).alloc (Nat.le_refl _) _)
  clear hw1 hsp
  obtain ⟨n, hn⟩ : ∃ n, L.length = n := ⟨_, rfl⟩
  have HPL : Hid ((A.parts s.data.toList).length = n) := Lib.hid (by rw [← HPP.out, List.length_map, hn])
  rw [hn]
  have HN := Lib.hid hn
  clear hn
  by_cases h4 : n = 4
  · subst h4
    go_wp2_with fail
    go_loopg [5, 17] 4 (fun g x i wr => ∃ j a : Nat, i = .int .i64 j ∧ x = .int .i64 a ∧ j + g = 4 ∧ Hid (a = A.acc ((A.parts s.data.toList).take j)) ∧ Hid (∀ p ∈ (A.parts s.data.toList).take j, A.nis 255 p = true) ∧ Hid (Below w1.heap.size w1 wr))
    case atStart => exact ⟨0, 0, rfl, rfl, rfl, Lib.hid rfl, Lib.hid (by simp), Lib.hid (Below.refl _ _)⟩
    case round =>
      obtain ⟨j, a, rfl, rfl, hjg, HA, HI, HW⟩ := hrel
      have HBw := Lib.hid (HB.out.trans (HW.out.mono HB.out.size))
      by_cases hlt : j < 4
      · have d1 : decide ((j : Int) < 4) = true := by simp; omega
        have hjl : j < L.length := by rw [HN.out]; exact hlt
        have hjp : j < (A.parts s.data.toList).length := by rw [HPL.out]; exact hlt
        obtain ⟨x, hx⟩ : ∃ x, L[j] = x := ⟨_, rfl⟩
        have hxp : (A.parts s.data.toList)[j] = x.data.toList := by
          rw [← hx]
          have := HPP.out
          simp only [← this, List.getElem_map]
        have hk : wr.cell? ⟨w.heap.size, j, none⟩ = some (.string x) := by
          rw [(HK.out.below HW.out HK.out.lt).cell j]
          unfold Lib.cellsOf
          rw [List.getElem?_toArray, List.getElem?_append_left (by simpa using hjl)]
          simp [hx, hjl]
        have hs2 : A.acc ((A.parts s.data.toList).take (j + 1)) = 256 * a + A.nv 255 x.data.toList := by rw [A.acc_next _ j hjp, ← HA.out, hxp]
        have ha : a < 16777216 := by rw [HA.out]; exact A.acc_take _ j hlt
        have HT : Hid ((A.parts s.data.toList).take (j + 1) = (A.parts s.data.toList).take j ++ [x.data.toList]) := Lib.hid (by rw [List.take_succ_eq_append_getElem hjp, hxp])
        have HX : Hid (x.data.toList ∈ A.parts s.data.toList) := Lib.hid (by rw [← hxp]; exact List.getElem_mem _)
        obtain ⟨y, hy⟩ : ∃ y, A.nv 255 x.data.toList = y := ⟨_, rfl⟩
        have hyl : y ≤ 255 := by rw [← hy]; exact A.nv_le _ _
        rw [hy] at hs2
        have HS2 := Lib.hid hs2
        clear hs2 hx hxp hjl hjp
        cases hq : A.nis 255 x.data.toList
        · have hnum := number_any x 255 y false wr (by omega) hy hq
          have HF := Lib.hid (A.read_bad HX.out hq)
          have HF1 : Hid (d = false) := Lib.hid (by rw [← HD.out, HF.out.1])
          have HF2 : Hid (v = 0) := Lib.hid (by rw [← HV.out, HF.out.2])
          clear hy hq
          go_wp2_with fail
          refine hnum.mono ?_
          rintro e w2 ⟨rfl, hb2⟩
          have HB2 := Lib.hid (HBw.out.trans (hb2.mono HBw.out.size))
          clear hb2 hnum
          go_wp2
          go_ret2
          exact ⟨by rw [HF1.out, HF2.out]; rfl, HB2.out⟩
        · have hnum := number_any x 255 y true wr (by omega) hy hq
          have HI2 : Hid (∀ p ∈ (A.parts s.data.toList).take (j + 1), A.nis 255 p = true) := Lib.hid (by
            rw [HT.out]
            intro p hp
            rcases List.mem_append.1 hp with hp | hp
            · exact HI.out p hp
            · rw [List.mem_singleton.1 hp]; exact hq)
          have hor := shl8_or a y ha hyl
          clear hy hq
          go_wp2_with fail
          refine hnum.mono ?_
          rintro e w2 ⟨rfl, hb2⟩
          have HB2 := Lib.hid (HW.out.trans (hb2.mono HW.out.size))
          clear hb2 hnum
          go_wp2
          go_roundg (3 - j)
          case rel => exact ⟨j + 1, 256 * a + y, by go_num, by go_num, by omega, Lib.hid HS2.out.symm, HI2, HB2⟩
          case measure => omega
      · obtain rfl : j = 4 := by omega
        have HF := Lib.hid (A.read_four HPL.out (by have := HI.out; rwa [List.take_of_length_le (by rw [HPL.out]; exact Nat.le_refl 4)] at this))
        have HF1 : Hid (d = true) := Lib.hid (by rw [← HD.out, HF.out.1])
        have HF2 : Hid (v = a) := Lib.hid (by rw [← HV.out, HF.out.2, HA.out, List.take_of_length_le (by rw [HPL.out]; exact Nat.le_refl 4)])
        go_wp2
        go_ret2
        exact ⟨by rw [HF1.out, HF2.out]; rfl, HBw.out⟩
  · have HF := Lib.hid (A.read_len (s := s.data.toList) (by rw [HPL.out]; exact h4))
    have HF1 : Hid (d = false) := Lib.hid (by rw [← HD.out, HF.out.1])
    have HF2 : Hid (v = 0) := Lib.hid (by rw [← HV.out, HF.out.2])
    have h5 : ¬ (n : Int) = 4 := by omega
    go_wp2
    go_ret2
    exact ⟨by rw [HF1.out, HF2.out]; rfl, HB.out⟩

theorem info_pre : (Tryd.prog.info? 23).map (·.size) = some 2 := by kernel_rfl
/-- Results of which the first one is a prefix in a cell. -/
theorem ret_pre {fn : Func} {p u : Tmp} (h : fn.results = #[.cell p 23, .tmp u]) {tmps : Array Value} {w : World} (g : Nat) (b k : Int) {x : Value}
    (hp : tmps.getD p undef = .pointer (some ⟨g, 0, none⟩)) (hu : tmps.getD u undef = x) (hg : Blok w g 23 #[.int .i64 b, .int .i64 k]) :
    (results fn tmps).run Tryd.prog w = .ok (.tuple #[.agg #[.int .i64 b, .int .i64 k], x]) w := by
  have hp' : tmps[p]?.getD undef = .pointer (some ⟨g, 0, none⟩) := by simpa using hp
  have hl := run_loadVar_row (P := Tryd.prog) w g 23 23 #[.int .i64 b, .int .i64 k] (0, 0) _ hg Tryd.underlying23 rfl info_pre
  have hu' : tmps[u]?.getD undef = x := by simpa using hu
  simp [results, h, hp', asAddr, hl, hu', Result.andThen]

/-- A prefix stored into its own cell. -/
theorem fin_pre {w W : World} (g : Nat) (hg : w.heap.size ≤ g) {x y : Value} (hk : Blok W g 23 #[x, y]) (hB : Below w.heap.size w W) (b k : Int) :
    Blok ((W.setCell ⟨g, 0, none⟩ (.int .i64 b)).setCell ⟨g, 1, none⟩ (.int .i64 k)) g 23 #[.int .i64 b, .int .i64 k] ∧ Below w.heap.size w ((W.setCell ⟨g, 0, none⟩ (.int .i64 b)).setCell ⟨g, 1, none⟩ (.int .i64 k)) := by
  refine ⟨?_, (hB.setCell (p := ⟨g, 0, none⟩) hg _).setCell (p := ⟨g, 1, none⟩) hg _⟩
  have := (hk.set 0 (.int .i64 b)).set 1 (.int .i64 k)
  simpa using this

theorem A.may_nat (b k : Nat) : A.may b k = decide (A.okP b k) := by
  rw [Bool.eq_iff_iff]
  unfold A.may
  rw [decide_eq_true_iff, decide_eq_true_iff]
  unfold A.okP
  have e : A.sz k = ((2 ^ (32 - k) : Nat) : Int) := by
    unfold A.sz
    rw [show (32 - (k : Int)).toNat = 32 - k by omega]
  rw [e, ← Int.natCast_emod]
  constructor
  · rintro ⟨_, h1, _, h2, h3⟩; exact ⟨by omega, by omega, by omega⟩
  · rintro ⟨h1, h2, h3⟩; exact ⟨by omega, by omega, by omega, by omega, by omega⟩

set_option maxHeartbeats 800000 in
theorem readAll_any (s : ByteArray) (b k : Nat) (d : Bool) (w : World) (hL : Laid w) (hz : s.size < 4294967281) (hb : A.prB s.data.toList = b) (hk : A.prK s.data.toList = k) (hd : A.isP s.data.toList = d) :
    Calls Tryd.prog 15 #[.string s] w fun e w' => e = .returned (.tuple #[.agg #[.int .i64 b, .int .i64 k], .bool d]) ∧ Below w.heap.size w w' := by
  have HL := Lib.hid hL
  obtain ⟨h1, h2, h3⟩ := A.readAll_of s.data.toList
  obtain ⟨p, hp⟩ : ∃ p, (Lib.cut s.data.toList [47]).1 = p := ⟨_, rfl⟩
  obtain ⟨q, hq⟩ : ∃ q, (Lib.cut s.data.toList [47]).2.1 = q := ⟨_, rfl⟩
  obtain ⟨t, ht⟩ : ∃ t, (Lib.cut s.data.toList [47]).2.2 = t := ⟨_, rfl⟩
  rw [hp, hq] at h1
  rw [hp, hd, hb] at h2
  rw [hq, hd, hk] at h3
  rw [hd] at h1
  have hps : p.length ≤ s.size := by
    rw [← hp]
    have hs2 : s.data.toList.length = s.size := rfl
    rcases A.cut_of s.data.toList with ⟨_, h⟩ | ⟨x, y, h, _, h'⟩
    · rw [h, ← hs2]; exact Nat.le_refl _
    · rw [h', ← hs2, h]; simp
  have hw0 : ∀ o, Laid (w.alloc o) := fun o => hL.below ((Below.refl _ w).alloc (Nat.le_refl _) o)
  have hcut : ∀ o, Calls Tryd.prog 32 #[.string s, .string (str [47])] (w.alloc o) fun e w' => e = .returned (.tuple #[.string (str p), .string (str q), .bool t]) ∧ ∃ n, w' = (w.alloc o).drewN n := fun o => by
    obtain ⟨m, hm⟩ := (hw0 o).1
    have := Tryd.strings_Cut s (str [47]) m (w.alloc o) hz hm
    have e : (str [47]).data.toList = [47] := rfl
    rw [e, hp, hq, ht] at this
    exact this
  have H1 := Lib.hid h1
  have H2 := Lib.hid h2
  have H3 := Lib.hid h3
  clear hL h1 h2 h3 hp hq ht hb hk hd
  go_enter Tryd.func15, Tryd.ntmps15
  go_wp2_with fail
  refine (hcut _).mono ?_
  rintro e w1 ⟨rfl, n0, hw1⟩
  have hk0 : Blok w1 w.heap.size 23 #[.int .i64 0, .int .i64 0] := by rw [hw1]; exact (pbox_blok w 0 0).drewN n0
  have hB1 : Below w.heap.size w w1 := by rw [hw1]; exact (pbox_below w 0 0).trans ((below_drewN _ _ _).mono (pbox_below w 0 0).size)
  have HB1 := Lib.hid hB1
  obtain ⟨a, ha⟩ : ∃ a, A.adr p = a := ⟨_, rfl⟩
  obtain ⟨ia, hia⟩ : ∃ a, A.isA p = a := ⟨_, rfl⟩
  have hrd := read_any (str p) a ia w1 (HL.out.below hB1) (by rw [str_size]; omega) ha hia
  clear hw1 hB1 hcut
  go_wp2_with fail
  refine hrd.mono ?_
  rintro e w2 ⟨rfl, hb2⟩
  have hk2 := hk0.below hb2 hk0.lt
  have HB2 := Lib.hid (HB1.out.trans (hb2.mono HB1.out.size))
  obtain ⟨n, hn⟩ : ∃ n, A.nv 32 q = n := ⟨_, rfl⟩
  obtain ⟨i, hi⟩ : ∃ i, A.nis 32 q = i := ⟨_, rfl⟩
  have hnm := number_any (str q) 32 n i w2 (by omega) hn hi
  clear hb2 hrd hk0
  go_wp2_with fail
  refine hnm.mono ?_
  rintro e w3 ⟨rfl, hb3⟩
  have hk3 := hk2.below hb3 hk2.lt
  have HK3 := Lib.hid hk3
  have HB3 := Lib.hid (HB2.out.trans (hb3.mono HB2.out.size))
  have H1' : Hid (d = (ia && i && decide (A.okP a n))) := Lib.hid (by rw [H1.out, hia, hi, ha, hn])
  have H2' : Hid (b = if d = true then a else 0) := Lib.hid (by rw [H2.out, ha])
  have H3' : Hid (k = if d = true then n else 0) := Lib.hid (by rw [H3.out, hn])
  have f0 : ∀ o, (w3.alloc o).frozen? ⟨w.heap.size, 0, none⟩ = false := fun o => (hk3.alloc o).frozen 0
  have f1 : ∀ o, (w3.alloc o).frozen? ⟨w.heap.size, 1, none⟩ = false := fun o => (hk3.alloc o).frozen 1
  have c0 : ∀ o, (w3.alloc o).cell? ⟨w.heap.size, 0, none⟩ = some (.int .i64 0) := fun o => (hk3.alloc o).cell 0
  have c1 : ∀ o, (w3.alloc o).cell? ⟨w.heap.size, 1, none⟩ = some (.int .i64 0) := fun o => (hk3.alloc o).cell 1
  have HW4 : ∀ o, Hid (Below w.heap.size w (w3.alloc o)) := fun o => Lib.hid (HB3.out.alloc HB3.out.size o)
  clear hb3 hnm hk2 hk3 ha hia hn hi
  have HW5 := fun o => fin_pre (w := w) w.heap.size (Nat.le_refl _) (HK3.out.alloc o) (HW4 o).out 0 0
  have hmay := A.may_nat a n
  cases ia
  · have HF : Hid (d = false) := Lib.hid (by rw [H1'.out]; rfl)
    have HF2 : Hid (b = 0) := Lib.hid (by rw [H2'.out, HF.out]; rfl)
    have HF3 : Hid (k = 0) := Lib.hid (by rw [H3'.out, HF.out]; rfl)
    go_wp2
    refine bodyPost_ret (ret_pre rfl w.heap.size 0 0 (by kernel_rfl) rfl (HW5 _).1) rfl ?_
    exact ⟨by rw [HF.out, HF2.out, HF3.out]; rfl, (HW5 _).2⟩
  · cases i
    · have HF : Hid (d = false) := Lib.hid (by rw [H1'.out]; rfl)
      have HF2 : Hid (b = 0) := Lib.hid (by rw [H2'.out, HF.out]; rfl)
      have HF3 : Hid (k = 0) := Lib.hid (by rw [H3'.out, HF.out]; rfl)
      go_wp2
      refine bodyPost_ret (ret_pre rfl w.heap.size 0 0 (by kernel_rfl) rfl (HW5 _).1) rfl ?_
      exact ⟨by rw [HF.out, HF2.out, HF3.out]; rfl, (HW5 _).2⟩
    · obtain ⟨mm, hmm⟩ : ∃ mm, A.may a n = mm := ⟨_, rfl⟩
      have hmc := may_any a n mm (w3.alloc (.cells #[.int .i64 a, .int .i64 n] 23)) hmm
      have HMM : Hid (d = mm) := Lib.hid (by rw [H1'.out, ← hmm, hmay]; rfl)
      have HP := Lib.hid (pbox_blok w3 a n)
      have HK4 := Lib.hid (HK3.out.alloc (.cells #[.int .i64 a, .int .i64 n] 23))
      have HB4 := Lib.hid (HW4 (.cells #[.int .i64 a, .int .i64 n] 23)).out
      clear hmay hmm f0 f1 c0 c1
      go_wp2_with fail
      refine hmc.mono ?_
      rintro e w5 ⟨rfl, hb5⟩
      have hk5 := HK4.out.below hb5 HK4.out.lt
      have hp5 : Blok w5 w3.heap.size 23 #[.int .i64 a, .int .i64 n] := HP.out.below hb5 HP.out.lt
      have q0 := pb0 hp5
      have q1 := pb1 hp5
      have g0 := pb0 hk5
      have g1 := pb1 hk5
      have f0 := hk5.frozen 0
      have f1 := hk5.frozen 1
      have HFP := fun b k => Lib.hid (fin_pre (w := w) w.heap.size (Nat.le_refl _) hk5 (HB4.out.trans (hb5.mono HB4.out.size)) b k)
      clear hb5 hmc hk5 hp5
      cases mm
      · have HF : Hid (d = false) := Lib.hid HMM.out
        have HF2 : Hid (b = 0) := Lib.hid (by rw [H2'.out, HF.out]; rfl)
        have HF3 : Hid (k = 0) := Lib.hid (by rw [H3'.out, HF.out]; rfl)
        go_wp2
        refine bodyPost_ret (ret_pre rfl w.heap.size 0 0 (by kernel_rfl) rfl (HFP _ _).out.1) rfl ?_
        exact ⟨by rw [HF.out, HF2.out, HF3.out]; rfl, (HFP _ _).out.2⟩
      · have HF : Hid (d = true) := Lib.hid HMM.out
        have HF2 : Hid (b = a) := Lib.hid (by rw [H2'.out, HF.out]; rfl)
        have HF3 : Hid (k = n) := Lib.hid (by rw [H3'.out, HF.out]; rfl)
        go_wp2
        refine bodyPost_ret (ret_pre rfl w.heap.size a n (by kernel_rfl) rfl (HFP _ _).out.1) rfl ?_
        exact ⟨by rw [HF.out, HF2.out, HF3.out]; rfl, (HFP _ _).out.2⟩
end Go.Proofs.YtbaneeedoledoaaDoor
