/-
  What happened, as numbers: what may be, an event's numbers, lists that go on, their bytes; what numbers tell. Plain.
-/
import Derived.Test.YtebiogadkamgcaaYEv
import Derived.Test.YtebiogadkamgcaaVReadM
namespace Go.Proofs.Ytebiogadkamgcaa
namespace N
def May (e : Y.Ev) : Prop :=
  (0 ≤ e.t ∧ e.t ≤ 1073741824) ∧
  ((e.k = 0 ∨ e.k = 1) ∧ (0 ≤ e.a ∧ e.a ≤ 31) ∧ (0 ≤ e.b ∧ e.b ≤ 3) ∧ (0 ≤ e.c ∧ e.c ≤ 7) ∧ e.p = Y.zp ∨
   e.k = 2 ∧ (0 ≤ e.a ∧ e.a ≤ 3) ∧ (1 ≤ e.b ∧ e.b ≤ 4) ∧ e.c = 0 ∧ e.p = Y.zp ∨
   (e.k = 3 ∨ e.k = 5) ∧ (0 ≤ e.a ∧ e.a ≤ 2) ∧ e.b = 0 ∧ e.c = 0 ∧ e.p = Y.zp ∨
   e.k = 4 ∧ (0 ≤ e.a ∧ e.a ≤ 2) ∧ (1 ≤ e.b ∧ e.b ≤ 4) ∧ e.c = 0 ∧ e.p = Y.zp ∨
   e.k = 6 ∧ e.a = 0 ∧ e.b = 0 ∧ e.c = 0 ∧ Y.MayP e.p)
instance (e : Y.Ev) : Decidable (May e) := by unfold May; exact inferInstance
/-- An event's numbers. -/
def nums (e : Y.Ev) : List Int :=
  if e.k = 0 ∨ e.k = 1 then [32 * e.a + 8 * e.b + e.c]
  else if e.k = 2 ∨ e.k = 4 then [8 * e.a + e.b]
  else if e.k = 6 then [e.p.q, e.p.i, e.p.h, if e.p.pair = true then 1 else 0]
  else [e.a]
def tick (t : Int) : Prop := 0 ≤ t ∧ t ≤ 1073741824
instance (t : Int) : Decidable (tick t) := by unfold tick; exact inferInstance
/-- All may be, and go on from a tick. -/
def ok : Int → List Y.Ev → Prop
  | _, [] => True
  | t, e :: l => May e ∧ t ≤ e.t ∧ ok e.t l
instance ok.dec : (t : Int) → (l : List Y.Ev) → Decidable (ok t l)
  | _, [] => .isTrue trivial
  | _, e :: l => @instDecidableAnd _ _ inferInstance (@instDecidableAnd _ _ inferInstance (ok.dec e.t l))
def flat : Int → List Y.Ev → List Int
  | _, [] => []
  | t, e :: l => (16 * (e.t - t) + e.k) :: (nums e ++ flat e.t l)
/-- The tick of the last one. -/
def last : Int → List Y.Ev → Int
  | t, [] => t
  | _, e :: l => last e.t l
def put (t : Int) (l : List Y.Ev) : Option (List Int) := if tick t ∧ ok t l then M.all (flat t l) else none

theorem ok_append : ∀ (l k : List Y.Ev) (t : Int), ok t (l ++ k) ↔ ok t l ∧ ok (last t l) k
  | [], _, _ => by simp [ok, last]
  | e :: l, k, t => by simp only [List.cons_append, ok, last, ok_append l k e.t]; grind
theorem flat_append : ∀ (l k : List Y.Ev) (t : Int), flat t (l ++ k) = flat t l ++ flat (last t l) k
  | [], _, _ => by simp [flat, last]
  | e :: l, k, t => by simp only [List.cons_append, flat, last, flat_append l k e.t, List.append_assoc]
theorem last_append : ∀ (l k : List Y.Ev) (t : Int), last t (l ++ k) = last (last t l) k
  | [], _, _ => by simp [last]
  | e :: l, k, t => by simp only [List.cons_append, last, last_append l k e.t]
theorem last_tick : ∀ (l : List Y.Ev) (t : Int), tick t → ok t l → tick (last t l)
  | [], _, h, _ => h
  | e :: l, t, h, hk => by
    obtain ⟨h1, h2, h3⟩ := hk
    exact last_tick l e.t ⟨h1.1.1, h1.1.2⟩ h3
theorem last_getD (l : List Y.Ev) (t : Int) (x : Y.Ev) (h : l.getLast? = some x) : last t l = x.t := by
  obtain ⟨k, rfl⟩ := List.getLast?_eq_some_iff.1 h
  rw [last_append]; rfl
theorem nums_len (e : Y.Ev) : 1 ≤ (nums e).length ∧ (nums e).length ≤ 4 := by
  unfold nums; split
  · simp
  · split
    · simp
    · split <;> simp
theorem nums_isn {e : Y.Ev} (h : May e) : ∀ n ∈ nums e, M.isn n := by
  intro n hn
  obtain ⟨-, h⟩ := h
  unfold nums at hn
  unfold M.isn
  rcases h with ⟨hk, h1, h2, h3, -⟩ | ⟨hk, h1, h2, h3, -⟩ | ⟨hk, h1, h2, h3, -⟩ | ⟨hk, h1, h2, h3, -⟩ | ⟨hk, h1, h2, h3, h4⟩
  · rw [if_pos hk] at hn; simp at hn; omega
  · rw [if_neg (by omega), if_pos (by omega)] at hn; simp at hn; omega
  · rw [if_neg (by omega), if_neg (by omega), if_neg (by omega)] at hn; simp at hn; omega
  · rw [if_neg (by omega), if_pos (by omega)] at hn; simp at hn; omega
  · rw [if_neg (by omega), if_neg (by omega), if_pos hk] at hn
    obtain ⟨p1, p2, p3, p4, p5, p6⟩ := h4
    simp only [List.mem_cons, List.not_mem_nil, or_false] at hn
    rcases hn with rfl | rfl | rfl | rfl
    · omega
    · omega
    · omega
    · split <;> omega
theorem May.kind {e : Y.Ev} (h : May e) : 0 ≤ e.k ∧ e.k ≤ 6 := by
  obtain ⟨-, h⟩ := h
  rcases h with ⟨h, -⟩ | ⟨h, -⟩ | ⟨h, -⟩ | ⟨h, -⟩ | ⟨h, -⟩ <;> omega
theorem flat_isn : ∀ (l : List Y.Ev) (t : Int), tick t → ok t l → ∀ n ∈ flat t l, M.isn n
  | [], _, _, _, n, hn => by simp [flat] at hn
  | e :: l, t, ht, hk, n, hn => by
    obtain ⟨h1, h2, h3⟩ := hk
    have hT := h1.1
    have hK := h1.kind
    unfold tick at ht
    simp only [flat, List.mem_cons, List.mem_append] at hn
    rcases hn with rfl | hn | hn
    · unfold M.isn; omega
    · exact nums_isn h1 n hn
    · exact flat_isn l e.t ⟨hT.1, hT.2⟩ h3 n hn
theorem put_some {t : Int} {l : List Y.Ev} {b : List Int} : put t l = some b ↔ tick t ∧ ok t l ∧ (flat t l).length ≤ 400 ∧ b = (flat t l).flatMap M.put := by
  unfold put
  constructor
  · intro h
    split at h
    · next hh =>
      obtain ⟨h1, h2, h3⟩ := all_some.1 h
      exact ⟨hh.1, hh.2, h1, h3⟩
    · cases h
  · rintro ⟨h1, h2, h3, rfl⟩
    rw [if_pos ⟨h1, h2⟩]
    exact all_some.2 ⟨h3, flat_isn l t h1 h2, rfl⟩
theorem put_read {t : Int} {l : List Y.Ev} {b : List Int} (h : put t l = some b) : M.read b = some (flat t l) := by
  unfold put at h
  split at h
  · exact read_some.2 h
  · cases h
theorem nums01 {e : Y.Ev} (h : e.k = 0 ∨ e.k = 1) : nums e = [32 * e.a + 8 * e.b + e.c] := by unfold nums; rw [if_pos h]
theorem nums24 {e : Y.Ev} (h : e.k = 2 ∨ e.k = 4) : nums e = [8 * e.a + e.b] := by unfold nums; rw [if_neg (by omega), if_pos h]
theorem nums6 {e : Y.Ev} (h : e.k = 6) : nums e = [e.p.q, e.p.i, e.p.h, if e.p.pair = true then 1 else 0] := by unfold nums; rw [if_neg (by omega), if_neg (by omega), if_pos h]
theorem nums35 {e : Y.Ev} (h : e.k = 3 ∨ e.k = 5) : nums e = [e.a] := by unfold nums; rw [if_neg (by omega), if_neg (by omega), if_neg (by omega)]
theorem nums_inj {e f : Y.Ev} (h : May e) (h' : May f) (hk : e.k = f.k) (ht : e.t = f.t) (hn : nums e = nums f) : e = f := by
  obtain ⟨-, h⟩ := h
  obtain ⟨-, h'⟩ := h'
  have key : e.a = f.a ∧ e.b = f.b ∧ e.c = f.c ∧ e.p = f.p := by
    rcases h with ⟨k1, h1, h2, h3, h4⟩ | ⟨k1, h1, h2, h3, h4⟩ | ⟨k1, h1, h2, h3, h4⟩ | ⟨k1, h1, h2, h3, h4⟩ | ⟨k1, h1, h2, h3, h4⟩ <;>
      rcases h' with ⟨k2, g1, g2, g3, g4⟩ | ⟨k2, g1, g2, g3, g4⟩ | ⟨k2, g1, g2, g3, g4⟩ | ⟨k2, g1, g2, g3, g4⟩ | ⟨k2, g1, g2, g3, g4⟩ <;> first | (exfalso; omega) | skip
    · rw [nums01 k1, nums01 k2] at hn
      simp only [List.cons.injEq, and_true] at hn
      exact ⟨by omega, by omega, by omega, h4.trans g4.symm⟩
    · rw [nums24 (.inl k1), nums24 (.inl k2)] at hn
      simp only [List.cons.injEq, and_true] at hn
      exact ⟨by omega, by omega, by omega, h4.trans g4.symm⟩
    · rw [nums35 k1, nums35 k2] at hn
      simp only [List.cons.injEq, and_true] at hn
      exact ⟨by omega, by omega, by omega, h4.trans g4.symm⟩
    · rw [nums24 (.inr k1), nums24 (.inr k2)] at hn
      simp only [List.cons.injEq, and_true] at hn
      exact ⟨by omega, by omega, by omega, h4.trans g4.symm⟩
    · rw [nums6 k1, nums6 k2] at hn
      simp only [List.cons.injEq, and_true] at hn
      obtain ⟨q1, q2, q3, q4⟩ := hn
      refine ⟨by omega, by omega, by omega, ?_⟩
      generalize e.p = p at *
      generalize f.p = p' at *
      obtain ⟨q, i, hh, pr⟩ := p
      obtain ⟨q', i', hh', pr'⟩ := p'
      simp only at q1 q2 q3 q4
      have : pr = pr' := by revert q4; cases pr <;> cases pr' <;> simp
      rw [q1, q2, q3, this]
  obtain ⟨k, t, a, b, c, p⟩ := e
  obtain ⟨k', t', a', b', c', p'⟩ := f
  simp only at hk ht key
  obtain ⟨rfl, rfl, rfl, rfl⟩ := key
  rw [hk, ht]
theorem nums_len_eq {e f : Y.Ev} (hk : e.k = f.k) : (nums e).length = (nums f).length := by
  unfold nums
  rw [hk]
  split
  · rfl
  · split
    · rfl
    · split <;> rfl
/-- The numbers of a list, and others behind them, being the numbers of another list: that one begins with the first one. -/
theorem flat_prefix' : ∀ (l k : List Y.Ev) (t : Int) (r : List Int), ok t l → ok t k → flat t l ++ r = flat t k → ∃ y, k = l ++ y ∧ r = flat (last t l) y
  | [], k, _, _, _, _, h => ⟨k, rfl, by simpa [flat, last] using h⟩
  | _ :: _, [], _, _, _, _, h => by simp [flat] at h
  | e :: l, f :: k, t, r, hl, hk, h => by
    obtain ⟨h1, h2, h3⟩ := hl
    obtain ⟨g1, g2, g3⟩ := hk
    have K1 := h1.kind
    have K2 := g1.kind
    simp only [flat, List.cons_append, List.cons.injEq, List.append_assoc] at h
    obtain ⟨e1, e2⟩ := h
    have ek : e.k = f.k := by omega
    have et : e.t = f.t := by omega
    obtain ⟨e3, e4⟩ := List.append_inj e2 (nums_len_eq ek)
    obtain rfl := nums_inj h1 g1 ek et e3
    obtain ⟨y, rfl, hy⟩ := flat_prefix' l k e.t r h3 g3 e4
    exact ⟨y, rfl, hy⟩
theorem put_inj {t : Int} {l k : List Y.Ev} {b : List Int} (h : put t l = some b) (h' : put t k = some b) : l = k := by
  have e : flat t l = flat t k := Option.some.inj ((put_read h).symm.trans (put_read h'))
  obtain ⟨-, h1, -, -⟩ := put_some.1 h
  obtain ⟨-, h2, -, -⟩ := put_some.1 h'
  obtain ⟨y, rfl, hy⟩ := flat_prefix' l k t [] h1 h2 (by simpa using e)
  cases y with
  | nil => simp
  | cons f y => simp [flat] at hy
open Classical in
/-- The events whose bytes are told, or none. -/
noncomputable def read (t : Int) (b : List Int) : Option (List Y.Ev) := if h : ∃ l, put t l = some b then some (Classical.choose h) else none
theorem read_some {t : Int} {l : List Y.Ev} {b : List Int} : read t b = some l ↔ put t l = some b := by
  unfold read
  constructor
  · intro h
    split at h
    · next hh => have e : Classical.choose hh = l := by simpa using h
                 rw [← e]; exact Classical.choose_spec hh
    · cases h
  · intro h
    have hh : ∃ l, put t l = some b := ⟨l, h⟩
    rw [dif_pos hh]
    congr 1
    exact put_inj (Classical.choose_spec hh) h
theorem read_none {t : Int} {b : List Int} (h : ∀ l, put t l ≠ some b) : read t b = none := by
  cases hr : read t b with
  | none => rfl
  | some l => exact absurd (read_some.1 hr) (h l)
theorem read_no {t : Int} {b : List Int} (h : M.read b = none) : read t b = none := read_none fun l hl => by rw [put_read hl] at h; cases h
theorem read_tick {t : Int} {b : List Int} (h : ¬ tick t) : read t b = none := read_none fun _ hl => h (put_some.1 hl).1
/-- How far numbers have been read: the events 'out', the tick t; 'left' are to be read. -/
def Part (t0 : Int) (L : List Int) (out : List Y.Ev) (t : Int) (left : List Int) : Prop := ∀ l, tick t0 → ok t0 l → flat t0 l = L → ∃ y, l = out ++ y ∧ tick t ∧ ok t y ∧ flat t y = left
theorem Part.start (t0 : Int) (L : List Int) : Part t0 L [] t0 L := fun l h1 h2 h3 => ⟨l, rfl, h1, h2, h3⟩
theorem Part.fin {t0 t : Int} {b L : List Int} {out : List Y.Ev} (h : Part t0 L out t []) (hr : M.read b = some L) : read t0 b = if put t0 out = some b then some out else none := by
  split
  · next hp => exact read_some.2 hp
  · next hp =>
    refine read_none fun l hl => hp ?_
    obtain ⟨h1, h2, -, -⟩ := put_some.1 hl
    obtain ⟨y, rfl, -, -, hy⟩ := h l h1 h2 (Option.some.inj ((put_read hl).symm.trans hr))
    cases y with
    | nil => simpa using hl
    | cons f y => simp [flat] at hy
theorem Part.bad {t0 t : Int} {b L left : List Int} {out : List Y.Ev} (h : Part t0 L out t left) (hr : M.read b = some L) (hb : ∀ y, tick t → ok t y → flat t y ≠ left) : read t0 b = none :=
  read_none fun l hl => by
    obtain ⟨h1, h2, -, -⟩ := put_some.1 hl
    obtain ⟨y, rfl, h3, h4, hy⟩ := h l h1 h2 (Option.some.inj ((put_read hl).symm.trans hr))
    exact hb y h3 h4 hy
/-- The next event: if any events have these numbers, their first one is it. -/
theorem Part.step {t0 t : Int} {L left left' : List Int} {out : List Y.Ev} {e : Y.Ev} (h : Part t0 L out t left) (h0 : left ≠ []) (hs : ∀ f y, tick t → May f → t ≤ f.t → left = flat t (f :: y) → f = e ∧ flat e.t y = left') : Part t0 L (out ++ [e]) e.t left' := by
  intro l h1 h2 h3
  obtain ⟨y, rfl, g1, g2, g3⟩ := h l h1 h2 h3
  cases y with
  | nil => exact absurd g3.symm h0
  | cons f y =>
    obtain ⟨m1, m2, m3⟩ := g2
    obtain ⟨rfl, hy⟩ := hs f y g1 m1 m2 g3.symm
    exact ⟨y, by simp, ⟨m1.1.1, m1.1.2⟩, m3, hy⟩
/-- The least B, the greatest A, B, C of a kind. -/
def low (k : Int) : Int := if k = 2 ∨ k = 4 then 1 else 0
def hiA (k : Int) : Int := if k = 0 ∨ k = 1 then 31 else if k = 2 then 3 else if k = 6 then 0 else 2
def hiB (k : Int) : Int := if k = 0 ∨ k = 1 then 3 else if k = 2 ∨ k = 4 then 4 else 0
def hiC (k : Int) : Int := if k = 0 ∨ k = 1 then 7 else 0
theorem may_iff (e : Y.Ev) : May e ↔ (0 ≤ e.k ∧ e.k ≤ 6) ∧ tick e.t ∧ (0 ≤ e.a ∧ e.a ≤ hiA e.k) ∧ (low e.k ≤ e.b ∧ e.b ≤ hiB e.k) ∧ (0 ≤ e.c ∧ e.c ≤ hiC e.k) ∧ (e.k = 6 → Y.MayP e.p) ∧ (¬ e.k = 6 → e.p = Y.zp) := by
  constructor
  · intro h
    refine ⟨h.kind, h.1, ?_⟩
    obtain ⟨-, h⟩ := h
    unfold low hiA hiB hiC
    rcases h with ⟨k1, h1, h2, h3, h4⟩ | ⟨k1, h1, h2, h3, h4⟩ | ⟨k1, h1, h2, h3, h4⟩ | ⟨k1, h1, h2, h3, h4⟩ | ⟨k1, h1, h2, h3, h4⟩
    · rw [if_pos k1, if_pos k1, if_pos k1, if_neg (by omega)]; exact ⟨h1, h2, h3, by omega, fun _ => h4⟩
    · simp [k1]; exact ⟨h1, h2, by omega, h4⟩
    · rcases k1 with k1 | k1 <;> simp [k1] <;> exact ⟨h1, by omega, by omega, h4⟩
    · simp [k1]; exact ⟨h1, h2, by omega, h4⟩
    · simp [k1]; exact ⟨by omega, by omega, by omega, h4⟩
  · rintro ⟨hk, ht, ha, hb, hc, h6, hz⟩
    refine ⟨ht, ?_⟩
    have k1 : e.k = 0 ∨ e.k = 1 ∨ e.k = 2 ∨ e.k = 3 ∨ e.k = 4 ∨ e.k = 5 ∨ e.k = 6 := by omega
    unfold low at hb
    unfold hiA at ha
    unfold hiB at hb
    unfold hiC at hc
    rcases k1 with k1 | k1 | k1 | k1 | k1 | k1 | k1 <;> simp [k1] at ha hb hc h6 hz ⊢
    · exact ⟨ha, hb, hc, hz⟩
    · exact ⟨ha, hb, hc, hz⟩
    · exact ⟨ha, hb, by omega, hz⟩
    · exact ⟨ha, by omega, by omega, hz⟩
    · exact ⟨ha, hb, by omega, hz⟩
    · exact ⟨ha, by omega, by omega, hz⟩
    · exact ⟨by omega, by omega, by omega, h6⟩
theorem zp_iff (q i h : Int) (pr : Bool) : ((⟨q, i, h, pr⟩ : Y.Po) = Y.zp) ↔ (q = 0 ∧ i = 0 ∧ h = 0 ∧ pr = false) := by
  unfold Y.zp
  rw [Y.Po.mk.injEq]
/-- What one way of reading makes of numbers; what is left. -/
def body (k : Int) (L : List Int) : (Int × Int × Int × Y.Po) × List Int :=
  if k = 0 ∨ k = 1 then ((L.headD 0 / 32, L.headD 0 % 32 / 8, L.headD 0 % 8, Y.zp), L.tail)
  else if k = 2 ∨ k = 4 then ((L.headD 0 / 8, L.headD 0 % 8, 0, Y.zp), L.tail)
  else if k = 3 ∨ k = 5 then ((L.headD 0, 0, 0, Y.zp), L.tail)
  else if k = 6 then ((0, 0, 0, ⟨L.headD 0, L.tail.headD 0, L.tail.tail.headD 0, decide (L.tail.tail.tail.headD 0 = 1)⟩), L.tail.tail.tail.tail)
  else ((0, 0, 0, Y.zp), L)
/-- The event that numbers seem to begin by; what is left. -/
def one (t : Int) (L : List Int) : Y.Ev × List Int :=
  let h := L.headD 0
  let x := body (h % 16) L.tail
  (⟨h % 16, Go.RowKit.wrap64 (t + h / 16), x.1.1, x.1.2.1, x.1.2.2.1, x.1.2.2.2⟩, x.2)
theorem one_step {t : Int} {f : Y.Ev} {y : List Y.Ev} (hf : May f) (hl : t ≤ f.t) : one t (flat t (f :: y)) = (f, flat f.t y) := by
  have hk := hf.kind
  have hf1 := hf.1
  have e1 : (16 * (f.t - t) + f.k) % 16 = f.k := by omega
  have e2 : (16 * (f.t - t) + f.k) / 16 = f.t - t := by omega
  have e3 : Go.RowKit.wrap64 (t + (f.t - t)) = f.t := by rw [Go.IntWalk.wrap64_in _ ⟨by omega, by omega⟩]; omega
  clear hf1
  unfold one
  simp only [flat, List.headD_cons, List.tail_cons, e1, e2, e3]
  obtain ⟨k, u, a, b, c, p⟩ := f
  obtain ⟨-, h⟩ := hf
  simp only at h hk
  unfold body
  rcases h with ⟨k1, h1, h2, h3, h4⟩ | ⟨k1, h1, h2, h3, h4⟩ | ⟨k1, h1, h2, h3, h4⟩ | ⟨k1, h1, h2, h3, h4⟩ | ⟨k1, h1, h2, h3, h4⟩
  · rw [nums01 k1]
    simp only [if_pos k1, List.cons_append, List.nil_append, List.headD_cons, List.tail_cons]
    rw [show (32 * a + 8 * b + c) / 32 = a by omega, show (32 * a + 8 * b + c) % 32 / 8 = b by omega, show (32 * a + 8 * b + c) % 8 = c by omega, h4]
  · rw [nums24 (.inl k1)]
    simp only [k1, List.cons_append, List.nil_append, List.headD_cons, List.tail_cons]
    simp
    exact ⟨by omega, by omega, h3.symm, h4.symm⟩
  · rw [nums35 k1]
    rcases k1 with k1 | k1
    all_goals
      simp only [k1, List.cons_append, List.nil_append, List.headD_cons, List.tail_cons]
      simp
      exact ⟨h2.symm, h3.symm, h4.symm⟩
  · rw [nums24 (.inr k1)]
    simp only [k1, List.cons_append, List.nil_append, List.headD_cons, List.tail_cons]
    simp
    exact ⟨by omega, by omega, h3.symm, h4.symm⟩
  · rw [nums6 k1]
    obtain ⟨q, i, z, pr⟩ := p
    simp only [k1, List.cons_append, List.nil_append, List.headD_cons, List.tail_cons]
    simp
    exact ⟨h1.symm, h2.symm, h3.symm⟩
theorem one_less (t : Int) (L : List Int) (h : L ≠ []) : (one t L).2.length < L.length := by
  cases L with
  | nil => exact absurd rfl h
  | cons x L =>
    unfold one body
    simp only [List.tail_cons, List.length_cons]
    have hd : ∀ l : List Int, l.tail.length ≤ l.length := fun l => by simp
    have h1 := hd L
    have h2 := hd L.tail
    have h3 := hd L.tail.tail
    have h4 := hd L.tail.tail.tail
    split
    · simp only; omega
    · split
      · simp only; omega
      · split
        · simp only; omega
        · split <;> simp only <;> omega
/-- What the document's 'one' tells: how many numbers the first event has, and it; none: there is none. -/
def Ones (t : Int) (L : List Int) (f : Y.Ev) (n : Nat) : Prop :=
  (n = 0 → ∀ g y, May g → t ≤ g.t → L ≠ flat t (g :: y)) ∧ (n ≠ 0 → n ≤ L.length ∧ ∀ g y, May g → t ≤ g.t → L = flat t (g :: y) → g = f ∧ flat g.t y = L.drop n)
theorem head_kind {t x : Int} {L : List Int} {g : Y.Ev} {y : List Y.Ev} (hg : May g) (h : x :: L = flat t (g :: y)) : x % 16 = g.k ∧ L = nums g ++ flat g.t y := by
  have hk := hg.kind
  simp only [flat, List.cons.injEq] at h
  exact ⟨by omega, h.2⟩
theorem ones_yes {t : Int} {L : List Int} {f : Y.Ev} {n : Nat} (h : one t L = (f, L.drop n)) (hn : n ≤ L.length) (h0 : n ≠ 0) : Ones t L f n :=
  ⟨fun h => absurd h h0, fun _ => ⟨hn, fun g y hg hl he => by
    have h1 := one_step (y := y) hg hl
    rw [← he, h] at h1
    simp only [Prod.mk.injEq] at h1
    exact ⟨h1.1.symm, h1.2.symm⟩⟩⟩
theorem ones_far {t x : Int} {L : List Int} {f : Y.Ev} {n : Nat} (hx : 6 < x % 16) (hn : n ≤ (x :: L).length) (h0 : n ≠ 0) : Ones t (x :: L) f n :=
  ⟨fun h => absurd h h0, fun _ => ⟨hn, fun g y hg _ he => by have := (head_kind hg he).1; have := hg.kind; omega⟩⟩
theorem ones_few {t x : Int} {L : List Int} {f : Y.Ev} (hL : L = []) : Ones t (x :: L) f 0 :=
  ⟨fun _ g y hg _ he => by
    have h1 := congrArg List.length (head_kind hg he).2
    have h2 := nums_len g
    rw [hL] at h1
    simp only [List.length_append, List.length_nil] at h1
    omega, fun h => absurd rfl h⟩
theorem ones_few6 {t x : Int} {L : List Int} {f : Y.Ev} (hx : x % 16 = 6) (hL : L.length < 4) : Ones t (x :: L) f 0 :=
  ⟨fun _ g y hg _ he => by
    obtain ⟨h1, h2⟩ := head_kind hg he
    rw [nums6 (by omega)] at h2
    have := congrArg List.length h2
    simp at this
    omega, fun h => absurd rfl h⟩
theorem ones_pair {t x a b c d : Int} {L : List Int} {f : Y.Ev} (hx : x % 16 = 6) (hd : 1 < d) : Ones t (x :: a :: b :: c :: d :: L) f 0 :=
  ⟨fun _ g y hg _ he => by
    obtain ⟨h1, h2⟩ := head_kind hg he
    rw [nums6 (by omega)] at h2
    simp only [List.cons_append, List.nil_append, List.cons.injEq] at h2
    have := h2.2.2.2.1
    split at this <;> omega, fun h => absurd rfl h⟩
end N
end Go.Proofs.Ytebiogadkamgcaa
