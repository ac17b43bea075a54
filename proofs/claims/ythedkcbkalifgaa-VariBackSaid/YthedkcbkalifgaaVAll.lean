/-
  Walk of moorings/mooringslaw01.VariAll: for every input it returns true.
-/
import Derived.Test.YthedkcbkalifgaaCount
import Derived.Laws.AppendOwnNone
namespace Go.Proofs.Ythedkcbkalifgaa
open Go.RowKit

/-- append, to a slice of the call's own, of whatever slice of integers (nil, too). -/
theorem wpList_append_row {P : Program} (w : World) {ops : Array Oper} {rest : List Oper} {o : Oper} {a : Act} {Q : Exit → Act → World → Prop} (hgd : o.guard = none) (s x : Operand) (t : TypeId)
    (ho : o.op = .call { callee := .builtin .append, args := #[s, x], argTypes := #[t, t] })
    (base : Nat) (e : TypeId) (i : TypeInfo) (z : Value) (bytes : Nat) (ht : P.underlying t = some (.slice e)) (hi : P.info? e = some i) (hz : i.zero = some z)
    (hsize : i.size = 1) (hby : i.bytes = bytes) (hzs : z.cells.size = 1)
    (v : Value) (n : Nat) (xs : List Value) (hs : a.eval s = v) (hown : w.ownsRow base e 1 v n xs)
    (k : IntKind) (ad : Option Addr) (m c : Nat) (L : List Int) (hx : a.eval x = .slice ad m c) (hr : RowIn k w ad c L) (hm : L.length = m) (hc0 : ad = none → m = 0 ∧ c = 0)
    (h63 : n + m ≤ maxLen) (hbytes : (n + m) * bytes ≤ 140737488355328) (hbase : base ≤ w.heap.size)
    (h : ∀ v' w', w'.ownsRow base e 1 v' (n + m) (xs ++ L.map (Value.int k)) → w.grownBy w' v.ownBlock → wpList P ops Q rest (a.put o.dst v') w') : wpList P ops Q (o :: rest) a w := by
  cases ad with
  | none =>
    obtain ⟨rfl, rfl⟩ := hc0 rfl
    obtain rfl : L = [] := List.eq_nil_of_length_eq_zero hm
    exact wpList_append_own_none hgd s x t ho base e i 1 ht hi v n xs hs hown hx (h v w (by simpa using hown) ⟨rfl, rfl, rfl, Nat.le_refl _, fun _ _ _ => rfl⟩)
  | some ad =>
    refine wpList_append_own w hgd s x t ho base e i z 1 bytes ht hi hz hsize hby hzs (by decide) v n xs hs hown ad m c (L.map (Value.int k)) hx (by simp [hm]) (fun j u hj => ?_) (ints_one k L) h63 hbytes hbase (fun v' w' h1 h2 _ => h v' w' h1 h2)
    rcases hr.2.2 with rfl | ⟨b, off, he, _, hc⟩
    · simp at hj
    · cases he
      obtain ⟨hj', hv⟩ := List.getElem?_eq_some_iff.1 hj
      rw [WideShapes.add_plain, hc j (by simpa using hj')]
      rw [← hv]
      simp at hj'
      simp [hj']

theorem all_append (L K : List Int) (hl : L.length ≤ 200) (hk : K.length ≤ 200) : M.all (L ++ K) = match M.all L, M.all K with | some x, some y => some (x ++ y) | _, _ => none := by
  unfold M.all
  by_cases h1 : ∀ n ∈ L, 0 ≤ n ∧ n ≤ 1099511627776
  · by_cases h2 : ∀ n ∈ K, 0 ≤ n ∧ n ≤ 1099511627776
    · rw [if_pos ⟨by simp; omega, fun n hn => (List.mem_append.1 hn).elim (h1 n) (h2 n)⟩, if_pos ⟨by omega, h1⟩, if_pos ⟨by omega, h2⟩]
      simp
    · rw [if_neg (fun h => h2 (fun n hn => h.2 n (List.mem_append.2 (.inr hn)))), if_neg (c := _ ∧ ∀ n ∈ K, _) (fun h => h2 h.2)]
      split
      · next h3 h4 => cases h4
      · rfl
  · rw [if_neg (fun h => h1 (fun n hn => h.2 n (List.mem_append.2 (.inl hn)))), if_neg (c := _ ∧ ∀ n ∈ L, _) (fun h => h1 h.2)]

theorem read_wf (L : List Int) : ∀ c ∈ (M.read L).getD [], (Lit.int .i64 c).wf = true := by
  cases hr : M.read L with
  | none => simp
  | some b => simpa using fun c hc => wf_num ((all_some.1 (read_some.1 hr)).2.1 c hc)

/-- What Read tells, as a slice. -/
theorem readRow_any (a : Option Addr) (len cap : Nat) (L : List Int) (w : World) (hl : L.length = len) (h : RowIn .u8 w a cap L) : Calls Try.prog 14 #[.slice a len cap] w fun e w' =>
    ∃ a' cap' n', e = .returned (.tuple #[.slice a' n' cap', .bool (M.read L).isSome]) ∧ Hid (((M.read L).getD []).length = n') ∧ Hid (RowIn .i64 w' a' cap' ((M.read L).getD [])) ∧ Below w.heap.size w w' :=
  (read_any a len cap L w hl h).mono fun e w' ⟨v, ok, he, hok, ho, hb⟩ => by
    obtain ⟨a', cap', rfl, _, hr⟩ := ownsRow_rowIn ho (read_wf L)
    exact ⟨a', cap', _, by rw [he, hok], rfl, hr, hb⟩

theorem own_row {k : IntKind} {w : World} {B e n : Nat} {v : Value} {L : List Int} (h : w.ownsRow B e 1 v n (L.map (Value.int k))) (hw : ∀ n ∈ L, (Lit.int k n).wf = true) : ∃ a cap, v = .slice a n cap ∧ RowIn k w a cap L := by
  obtain ⟨a, cap, h1, _, h2⟩ := ownsRow_rowIn h hw
  exact ⟨a, cap, h1, h2⟩

theorem IsRow.nil {k : IntKind} {w : World} {a : Option Addr} {len cap : Nat} {zs : List Int} (h : IsRow k w a len cap zs) : a = none → len = 0 ∧ cap = 0 := by
  rcases h with ⟨_, rfl, rfl, _⟩ | ⟨x, rfl, _⟩
  · exact fun _ => ⟨rfl, rfl⟩
  · intro h; cases h

theorem strOf_size (L : List Int) : (strOf L).size = L.length := by
  show (L.map fun n => UInt8.ofNat n.toNat).toArray.size = _
  simp
theorem strOf_all (L : List Int) (hl : L.length ≤ 400) : (strOf ((M.all L).getD [])).size ≤ 2400 := by
  rw [strOf_size]
  cases hr : M.all L with
  | none => simp
  | some b =>
    obtain ⟨_, _, h3⟩ := all_some.1 hr
    have := flat_len L
    rw [h3]
    simp only [Option.getD_some]
    omega

theorem vall_short (i : Nat) (a0 a1 a2 : Option Addr) (l0 l1 l2 c0 c1 c2 : Nat) (w : World) (h : (i = 0 ∧ 200 < l0) ∨ (i = 1 ∧ l0 ≤ 200 ∧ 200 < l1) ∨ (i = 2 ∧ l0 ≤ 200 ∧ l1 ≤ 200 ∧ 500 < l2)) :
    Calls Try.prog 5 #[.slice a0 l0 c0, .slice a1 l1 c1, .slice a2 l2 c2] w fun e w' => e = .returned (.bool true) ∧ Below w.heap.size w w' := by
  rcases h with ⟨_, h1⟩ | ⟨_, h1, h2⟩ | ⟨_, h1, h2, h3⟩
  · have d1 : decide (200 < (l0 : Int)) = true := by simp; omega
    go_enter Try.func5, Try.ntmps5
    go_wp2_with fail
    refine (awake_any _).mono ?_
    rintro e w1 ⟨rfl, hb1⟩
    have hb : Hid (Below w.heap.size w w1) := Lib.hid hb1
    clear hb1
    go_wp2
    go_ret
    exact ⟨rfl, hb.out⟩
  · have d1 : decide (200 < (l0 : Int)) = false := by simp; omega
    have d2 : decide (200 < (l1 : Int)) = true := by simp; omega
    go_enter Try.func5, Try.ntmps5
    go_wp2_with fail
    refine (awake_any _).mono ?_
    rintro e w1 ⟨rfl, hb1⟩
    have hb : Hid (Below w.heap.size w w1) := Lib.hid hb1
    clear hb1
    go_wp2
    go_ret
    exact ⟨rfl, hb.out⟩
  · have d1 : decide (200 < (l0 : Int)) = false := by simp; omega
    have d2 : decide (200 < (l1 : Int)) = false := by simp; omega
    have d3 : decide (500 < (l2 : Int)) = true := by simp; omega
    go_enter Try.func5, Try.ntmps5
    go_wp2_with fail
    refine (awake_any _).mono ?_
    rintro e w1 ⟨rfl, hb1⟩
    have hb : Hid (Below w.heap.size w w1) := Lib.hid hb1
    clear hb1
    go_wp2
    go_ret
    exact ⟨rfl, hb.out⟩

set_option maxRecDepth 100000 in
set_option maxHeartbeats 2000000 in
theorem vall_in (a0 a1 a2 : Option Addr) (l0 l1 l2 c0 c1 c2 : Nat) (L K B : List Int) (w : World) (h0 : L.length = l0) (h1 : K.length = l1) (h2 : B.length = l2) (r0 : RowIn .i64 w a0 c0 L) (r1 : RowIn .i64 w a1 c1 K) (r2 : RowIn .u8 w a2 c2 B)
    (n0 : a0 = none → l0 = 0 ∧ c0 = 0) (n1 : a1 = none → l1 = 0 ∧ c1 = 0) (hl0 : l0 ≤ 200) (hl1 : l1 ≤ 200) (hl2 : l2 ≤ 500) :
    Calls Try.prog 5 #[.slice a0 l0 c0, .slice a1 l1 c1, .slice a2 l2 c2] w fun e w' => e = .returned (.bool true) ∧ Below w.heap.size w w' := by
  obtain ⟨i0, hi, hz0, hz1, hz2⟩ := info_parts info3
  have d1 : decide (200 < (l0 : Int)) = false := by simp; omega
  have d2 : decide (200 < (l1 : Int)) = false := by simp; omega
  have d3 : decide (500 < (l2 : Int)) = false := by simp; omega
  have L0 := Lib.hid h0
  have L1 := Lib.hid h1
  have L2 := Lib.hid h2
  have R0 := Lib.hid r0
  have R1 := Lib.hid r1
  have R2 := Lib.hid r2
  have N0 := Lib.hid n0
  have N1 := Lib.hid n1
  clear h0 h1 h2 r0 r1 r2 n0 n1
  obtain ⟨okL, hokL⟩ : ∃ b, (M.all L).isSome = b := ⟨_, rfl⟩
  obtain ⟨okK, hokK⟩ : ∃ b, (M.all K).isSome = b := ⟨_, rfl⟩
  obtain ⟨has, hhas⟩ : ∃ b, (M.read ((M.all L).getD [])).isSome = b := ⟨_, rfl⟩
  obtain ⟨same, hsame⟩ : ∃ b, decide ((M.read ((M.all L).getD [])).getD [] = L) = b := ⟨_, rfl⟩
  obtain ⟨fits, hfits⟩ : ∃ b, (M.all (L ++ K)).isSome = b := ⟨_, rfl⟩
  obtain ⟨okB, hokB⟩ : ∃ b, (M.read B).isSome = b := ⟨_, rfl⟩
  obtain ⟨fitB, hfitB⟩ : ∃ b, (M.all ((M.read B).getD [])).isSome = b := ⟨_, rfl⟩
  obtain ⟨sp, hsp⟩ : ∃ s, strOf ((M.all L).getD []) = s := ⟨_, rfl⟩
  obtain ⟨sq, hsq⟩ : ∃ s, strOf ((M.all K).getD []) = s := ⟨_, rfl⟩
  obtain ⟨sb, hsb⟩ : ∃ s, strOf ((M.all (L ++ K)).getD []) = s := ⟨_, rfl⟩
  obtain ⟨sr, hsr⟩ : ∃ s, strOf ((M.all ((M.read B).getD [])).getD []) = s := ⟨_, rfl⟩
  obtain ⟨st, hst⟩ : ∃ s, strOf B = s := ⟨_, rfl⟩
  have F1 : Hid (okL = true → has = true ∧ same = true) := Lib.hid (by
    intro h
    rw [← hokL] at h
    obtain ⟨x, hx⟩ := Option.isSome_iff_exists.1 h
    rw [← hhas, ← hsame, hx]
    simp [read_some.2 hx])
  have F2 : Hid (fits = (okL && okK)) := Lib.hid (by
    rw [← hfits, ← hokL, ← hokK, all_append L K (by rw [L0.out]; exact hl0) (by rw [L1.out]; exact hl1)]
    cases M.all L <;> cases M.all K <;> rfl)
  have F3 : Hid (okL = true → okK = true → (sb.toList == (sp ++ sq).toList) = true) := Lib.hid (by
    intro h h'
    rw [← hokL] at h
    rw [← hokK] at h'
    obtain ⟨x, hx⟩ := Option.isSome_iff_exists.1 h
    obtain ⟨y, hy⟩ := Option.isSome_iff_exists.1 h'
    rw [← hsb, ← hsp, ← hsq, strOf_append, all_append L K (by rw [L0.out]; exact hl0) (by rw [L1.out]; exact hl1), hx, hy]
    simp)
  have F4 : Hid (okB = true → fitB = true ∧ (sr.toList == st.toList) = true) := Lib.hid (by
    intro h
    rw [← hokB] at h
    obtain ⟨x, hx⟩ := Option.isSome_iff_exists.1 h
    rw [← hfitB, ← hsr, ← hst, hx]
    simp [read_some.1 hx])
  have z1 : sp.size ≤ 2400 := by rw [← hsp]; exact strOf_all L (by rw [L0.out]; omega)
  have z2 : sq.size ≤ 2400 := by rw [← hsq]; exact strOf_all K (by rw [L1.out]; omega)
  have KL := Lib.hid hokL
  have KK := Lib.hid hokK
  have KH := Lib.hid hhas
  have KS := Lib.hid hsame
  have KF := Lib.hid hfits
  have KB := Lib.hid hokB
  have KG := Lib.hid hfitB
  have SP := Lib.hid hsp
  have SQ := Lib.hid hsq
  have SB := Lib.hid hsb
  have SR := Lib.hid hsr
  have ST := Lib.hid hst
  clear hokL hokK hhas hsame hfits hokB hfitB hsp hsq hsb hsr hst
  go_enter Try.func5, Try.ntmps5
  go_wp2_with fail
  refine (awake_any _).mono ?_
  rintro e w1 ⟨rfl, hb1⟩
  go_wp2_with fail
  refine (allRow_any _ l0 _ L _ L0.out (R0.out.below hb1)).mono ?_
  rintro e w2 ⟨a3, c3, n3, rfl, l3, r3, hb2⟩
  rw [KL.out]
  have hw2 := hb1.trans (hb2.mono hb1.size)
  go_wp2_with fail
  refine (allRow_any _ l1 _ K _ L1.out (R1.out.below hw2)).mono ?_
  rintro e w3 ⟨a4, c4, n4, rfl, l4, r4, hb3⟩
  rw [KK.out]
  have hw3 := hw2.trans (hb3.mono hw2.size)
  go_wp2_with fail
  refine (readRow_any _ n3 _ _ _ l3.out (r3.out.below hb3)).mono ?_
  rintro e w4 ⟨a5, c5, n5, rfl, l5, r5, hb4⟩
  rw [KH.out]
  have hw4 := hw3.trans (hb4.mono hw3.size)
  have HW4 := Lib.hid hw4
  have hs4 := hw4.size
  have B2 := Lib.hid hb2
  have B3 := Lib.hid hb3
  have B4 := Lib.hid hb4
  clear hb1 hb2 hb3 hb4 hw2 hw3 hw4
  go_wp2_with (first
    | (at_builtin; refine wpList_append_row _ rfl (.const (.slice none 0 0)) (.tmp 56) 23 rfl w4.heap.size 3 i0 (.int .i64 0) 8 Try.underlying23 hi hz0 hz1 hz2 rfl _ 0 [] rfl (World.ownsRow_nil _ _ _ _) .i64 _ l0 c0 L rfl (R0.out.below HW4.out) L0.out N0.out (by unfold maxLen; omega) (by omega) (Nat.le_refl _) ?_; intro v5 w5 hown5 hgrow5; have hg5 : w4.grownBy w5 none := hgrow5; clear hgrow5)
    | (at_builtin; refine wpList_append_row _ rfl (.tmp 57) (.tmp 58) 23 rfl w4.heap.size 3 i0 (.int .i64 0) 8 Try.underlying23 hi hz0 hz1 hz2 rfl _ (0 + l0) _ rfl hown5 .i64 _ l1 c1 K rfl (R1.out.below (HW4.out.grown hg5 hs4 (by simp))) L1.out N1.out (by unfold maxLen; omega) (by omega) hg5.size ?_; intro v6 w6 hown6 hgrow6))
  have hown6' : w6.ownsRow w4.heap.size 3 1 v6 (l0 + l1) ((L ++ K).map (Value.int .i64)) := by simpa using hown6
  obtain ⟨a6, c6, rfl, r6⟩ := own_row hown6' (fun n hn => (List.mem_append.1 hn).elim (R0.out.2.1 n) (R1.out.2.1 n))
  have hw46 : Below w4.heap.size w4 w6 := ((Below.refl w4.heap.size w4).grown hg5 (Nat.le_refl _) (by simp)).grown hgrow6 hg5.size (fun k e => (hown5.lt k e).1)
  have hw6 := HW4.out.trans (hw46.mono hs4)
  have R6 := Lib.hid r6
  have B6 := Lib.hid hw46
  have W6 := Lib.hid hw6
  clear hown5 hown6 hown6' hg5 hgrow6 r6 hw46 hw6
  refine (allRow_any _ (l0 + l1) _ (L ++ K) _ (by rw [List.length_append, L0.out, L1.out]) R6.out).mono ?_
  rintro e w7 ⟨a7, c7, n7, rfl, l7, r7, hb7⟩
  rw [KF.out]
  have B7 := Lib.hid hb7
  have W7 := Lib.hid (W6.out.trans (hb7.mono W6.out.size))
  clear hb7
  go_wp2_with fail
  refine (ints_any _ _ n5 l0 _ _ _ L _ l5.out L0.out ((r5.out.below B6.out).below B7.out) (R0.out.below W7.out)).mono ?_
  rintro e w8 ⟨rfl, hb8⟩
  rw [KS.out]
  have B8 := Lib.hid hb8
  have W8 := Lib.hid (W7.out.trans (hb8.mono W7.out.size))
  clear hb8
  have cp := conv_row (((((r3.out.below B3.out).below B4.out).below B6.out).below B7.out).below B8.out) l3.out
  have cq := conv_row ((((r4.out.below B4.out).below B6.out).below B7.out).below B8.out) l4.out
  have cb := conv_row (r7.out.below B8.out) l7.out
  rw [SP.out] at cp
  rw [SQ.out] at cq
  rw [SB.out] at cb
  have F2o := F2.out
  cases okL
  all_goals
    cases okK
    all_goals
      simp only [Bool.and_false, Bool.and_true] at F2o
      subst F2o
      try (obtain ⟨rfl, rfl⟩ := F1.out rfl)
      try (have F3o := F3.out rfl rfl)
      go_wp2_with fail
      refine (readRow_any _ l2 _ B _ L2.out (R2.out.below W8.out)).mono ?_
      rintro e w9 ⟨a9, c9, n9, rfl, l9, r9, hb9⟩
      rw [KB.out]
      clear cp cq cb
      have B9 := Lib.hid hb9
      have W9 := Lib.hid (W8.out.trans (hb9.mono W8.out.size))
      clear hb9
      go_wp2_with fail
      refine (allRow_any _ n9 _ _ _ l9.out r9.out).mono ?_
      rintro e w10 ⟨a10, c10, n10, rfl, l10, r10, hb10⟩
      rw [KG.out]
      have W10 := Lib.hid (W9.out.trans (hb10.mono W9.out.size))
      clear hb10
      have cr := conv_row r10.out l10.out
      have ct := conv_row (R2.out.below W10.out) L2.out
      rw [SR.out] at cr
      rw [ST.out] at ct
      cases okB with
      | false =>
        go_wp2
        go_ret
        exact ⟨rfl, W10.out⟩
      | true =>
        obtain ⟨rfl, F4o⟩ := F4.out rfl
        go_wp2
        go_ret
        exact ⟨rfl, W10.out⟩

theorem vall_any (a0 a1 a2 : Option Addr) (l0 l1 l2 c0 c1 c2 : Nat) (z0 z1 z2 : List Int) (w : World) (w0 : IsRow .i64 w a0 l0 c0 z0) (w1 : IsRow .i64 w a1 l1 c1 z1) (w2 : IsRow .u8 w a2 l2 c2 z2) :
    Calls Try.prog 5 #[.slice a0 l0 c0, .slice a1 l1 c1, .slice a2 l2 c2] w fun e w' => e = .returned (.bool true) ∧ Below w.heap.size w w' := by
  by_cases h0 : 200 < l0
  · exact vall_short 0 a0 a1 a2 l0 l1 l2 c0 c1 c2 w (.inl ⟨rfl, h0⟩)
  · by_cases h1 : 200 < l1
    · exact vall_short 1 a0 a1 a2 l0 l1 l2 c0 c1 c2 w (.inr (.inl ⟨rfl, by omega, h1⟩))
    · by_cases h2 : 500 < l2
      · exact vall_short 2 a0 a1 a2 l0 l1 l2 c0 c1 c2 w (.inr (.inr ⟨rfl, by omega, by omega, h2⟩))
      · exact vall_in a0 a1 a2 l0 l1 l2 c0 c1 c2 _ _ _ w w0.rowIn.2 w1.rowIn.2 w2.rowIn.2 w0.rowIn.1 w1.rowIn.1 w2.rowIn.1 w0.nil w1.nil (by omega) (by omega) (by omega)
end Go.Proofs.Ythedkcbkalifgaa
