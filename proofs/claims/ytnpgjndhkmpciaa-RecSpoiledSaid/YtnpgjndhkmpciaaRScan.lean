/-
  Walk of moorings/rec.Scan, over the iterator's contract. For every slice of bytes of at most 90000.
-/
import Derived.Test.YtnpgjndhkmpciaaRIter
import Derived.Maps.OwnIn
namespace Go.Proofs.Ytnpgjndhkmpciaa
open Go.RowKit Go.Shelf
attribute [local go_sem] Oper.semAt_some

set_option maxHeartbeats 1000000 in
theorem records_in (n : Nat) (a : Option Addr) (len cap : Nat) (w : World) :
    CallsIn Fence.wide n Try.prog 31 #[.slice a len cap] w fun e w' => e = .returned (.func (.func 40) #[] #[.pointer (some ⟨w.heap.size, 0, none⟩)]) ∧ w' = w.alloc (.cells #[.slice a len cap] 22) := by
  have hf20 : Fence.wide.fn 31 := trivial
  refine callsIn_of_wp Try.func31 rfl hf20 ?_ rfl
  simp only [Try.ntmps31, List.size_toArray, List.length_cons, List.length_nil, Nat.reduceAdd, Nat.reduceSub, Array.replicate_succ, Array.replicate_zero, List.push_toArray, List.append_toArray, List.nil_append, List.cons_append]
  gi_wp2
  go_ret
  exact ⟨rfl, rfl⟩

theorem recs_told (n H Bn : Nat) (hn : 3 ≤ n) (a : Option Addr) (len cap : Nat) (L : List Int) (h9 : len ≤ 90000) (hlen : L.length = len) (W0 w : World) (hBn : Boxed w Bn 22 (.slice a len cap)) (hH : W0.heap.size ≤ H) (hHw : H ≤ w.heap.size) (hW0 : Below H W0 w) (hL : RowIn .u8 W0 a cap L) (hN : a = none → len = 0 ∧ cap = 0) :
    SeqTold Fence.wide n Try.prog 40 #[.pointer (some ⟨Bn, 0, none⟩)] encR (Told w.heap.size) (KpZ H Bn) (AllR L) (L.length + 1) w := fun l J W hW hab hz hY h0 =>
  recs1_in n l Bn H w.heap.size hn a len cap L h9 hlen J W W0 hab hz hY ((hW.block Bn hBn.lt).trans hBn) hH (Nat.le_trans hHw hW.size) hW.size (hW0.trans (hW.mono hHw)) hL hN h0

theorem ownsRow_form2 {w : World} {B e sz n : Nat} {v : Value} {xs : List Value} (h : w.ownsRow B e sz v n xs) : ∃ a cap, v = .slice a n cap := by
  rcases h.2 with ⟨rfl, rfl⟩ | ⟨g, cap, _, rfl, _⟩
  · exact ⟨_, _, rfl⟩
  · exact ⟨_, _, rfl⟩
/-- A store into one block turns that one alone. -/
theorem grown_set (W : World) (b i : Nat) (v : Value) : W.grownBy (W.setCell ⟨b, i, none⟩ v) (some b) :=
  ⟨rfl, rfl, rfl, (KeepsWalks.setCell W _ v).size, fun k _ hk => Below.heap_setCell W ⟨b, i, none⟩ v k (fun e => hk (by rw [e]))⟩

/-- The records that have come lie where they lay, and not in z. -/
def RowsOf (z : Nat) (pre : List RY) (W : World) : Prop := ∀ y ∈ pre, (RP.ok W y.1 ∧ InB W y.1.2.1) ∧ ∀ x, y.1.2.1 = some x → x.block ≠ z
theorem RowsOf.grown {z : Nat} {pre : List RY} {W W' : World} {row : Option Nat} (h : RowsOf z pre W) (hg : W.grownBy W' row) (hne : ∀ y ∈ pre, ∀ x, y.1.2.1 = some x → some x.block ≠ row) : RowsOf z pre W' := by
  intro y hy
  obtain ⟨⟨h1, h2⟩, h3⟩ := h y hy
  exact ⟨⟨⟨h1.1, row_grown h1.2.1 hg (hne y hy), h1.2.2⟩, inB_grown h2 hg (hne y hy)⟩, h3⟩
theorem rows_own (B z : Nat) : OwnFrom B (RowsOf z) := fun pre W W' row hs hg hr => hs.grown hg fun y hy x hx he => by
  obtain ⟨cs, f, hc⟩ := (hs y hy).1.2 x hx
  obtain ⟨_, o, ho, hno⟩ := hr x.block he.symm
  rw [hc] at ho
  cases ho
  cases hno

/-- What the loop's cells hold between two rounds. -/
def InvS (w0 : World) (N : Nat) (s : Value) (z : Nat) (pre : List RY) (W : World) : Prop :=
  ((∃ v, Boxed W N 27 v ∧ W.ownsRow (N + 3) 24 2 v pre.length (RP.flat (pre.map Prod.fst)) ∧ v.ownBlock ≠ some z) ∧ Boxed W (N + 1) 3 (.int .i64 (lastR pre)) ∧ Boxed W (N + 2) 22 s) ∧ RowsOf z pre W ∧ N + 3 ≤ z ∧ Below N w0 W
theorem inv_own (w0 : World) (N B : Nat) (s : Value) (z : Nat) (hN : N ≤ w0.heap.size) (hB : N ≤ B) : OwnFrom B (InvS w0 N s z) :=
  OwnFrom.and (OwnFrom.and (Own.from (holdsRow_own (N + 3) N 27 24 2 (fun pre : List RY => pre.length) (fun pre => RP.flat (pre.map Prod.fst)) (fun _ v => v.ownBlock ≠ some z)) _)
    (OwnFrom.and (Own.from (boxed_own (N + 1) 3 (fun pre : List RY => Value.int .i64 (lastR pre))) _) (Own.from (boxed_own (N + 2) 22 (fun _ => s)) _)))
    (OwnFrom.and (rows_own B z) (OwnFrom.and (ownFrom_pure B (fun _ : List RY => N + 3 ≤ z)) (ownFrom_below hN hB)))
theorem inv_set {w0 : World} {N : Nat} {s : Value} {z : Nat} {pre : List RY} {V : World} (i : Nat) (u : Value) (h : InvS w0 N s z pre V) : InvS w0 N s z pre (V.setCell ⟨z, i, none⟩ u) := by
  obtain ⟨⟨⟨v, h1, h2, h3⟩, h4, h5⟩, h6, h7, h8⟩ := h
  have hg := grown_set V z i u
  have ne : ∀ k : Nat, k < N + 3 → some k ≠ some z := fun k hk e => by cases e; omega
  refine ⟨⟨⟨v, h1.kept hg (ne _ (by omega)), h2.kept hg (.inr h3), h3⟩, h4.kept hg (ne _ (by omega)), h5.kept hg (ne _ (by omega))⟩, h6.grown hg (fun y hy x hx e => (h6 y hy).2 x hx (Option.some.inj e)), h7, h8.setCell (p := ⟨z, i, none⟩) (by show N ≤ z; omega) u⟩

theorem box_rec {W w1 : World} {N k B : Nat} {v : Value} {xs : List Value} {tmp : Obj} {t : TypeId} {u : Value} (hrow : W.ownsRow (N + 3) 24 2 v k xs) (hgrow : (W.alloc tmp).grownBy w1 v.ownBlock) (hb : Boxed W B t u) (hB : B < N + 3) : Boxed w1 B t u :=
  (hb.alloc tmp).kept hgrow (fun e => by have := (hrow.lt _ e.symm).1; omega)

theorem scan_body {w0 W w1 : World} {N z : Nat} {s v v' : Value} {pre : List RY} {x : RY} {tmp : Obj} (hv : Boxed W N 27 v) (hrow : W.ownsRow (N + 3) 24 2 v pre.length (RP.flat (pre.map Prod.fst))) (hvz : v.ownBlock ≠ some z)
    (b1 : Boxed W (N + 1) 3 (.int .i64 (lastR pre))) (b2 : Boxed W (N + 2) 22 s) (hR : RowsOf z pre W) (hz : N + 3 ≤ z) (hB : Below N w0 W) (hT : Told (N + 3) z x W)
    (hown' : w1.ownsRow (N + 3) 24 2 v' (pre.length + 1) (RP.flat (pre.map Prod.fst) ++ RP.cells x.1)) (hgrow : (W.alloc tmp).grownBy w1 v.ownBlock) (hat : v'.ownBlock = v.ownBlock ∨ v'.ownBlock = some (W.heap.size + 1)) :
    KeepsOthers W ((w1.setCell ⟨N, 0, none⟩ v').setCell ⟨N + 1, 0, none⟩ (.int .i64 x.2)) ∧ KpZ N (N + 2) z W ((w1.setCell ⟨N, 0, none⟩ v').setCell ⟨N + 1, 0, none⟩ (.int .i64 x.2)) ∧
      InvS w0 N s z (pre ++ [x]) ((w1.setCell ⟨N, 0, none⟩ v').setCell ⟨N + 1, 0, none⟩ (.int .i64 x.2)) := by
  have x0 := box_rec hrow hgrow hv (by omega)
  have x1 := box_rec hrow hgrow b1 (by omega)
  have x2 := box_rec hrow hgrow b2 (by omega)
  have hws := b2.lt
  have hzl := hT.2.2.1
  have hbel : Below N W ((w1.setCell ⟨N, 0, none⟩ v').setCell ⟨N + 1, 0, none⟩ (.int .i64 x.2)) :=
    (((Below.refl N W).alloc (by omega) tmp).grown hgrow (by simp; omega) (fun k e => by have := (hrow.lt _ e).1; omega)).setCell (p := ⟨N, 0, none⟩) (by simp) v' |>.setCell (p := ⟨N + 1, 0, none⟩) (by simp) _
  have z2 := (x2.other (B' := N) (by omega) v').other (B' := N + 1) (by omega) (.int .i64 x.2)
  have g1 := grown_set w1 N 0 v'
  have g2 := grown_set (w1.setCell ⟨N, 0, none⟩ v') (N + 1) 0 (.int .i64 x.2)
  have hR2 : RowsOf z (pre ++ [x]) (W.alloc tmp) := by
    intro y hy
    have hb := (Below.refl W.heap.size W).alloc (Nat.le_refl _) tmp
    rcases List.mem_append.1 hy with hy | hy
    · exact ⟨⟨(hR y hy).1.1.below hb, (hR y hy).1.2.below hb⟩, (hR y hy).2⟩
    · simp only [List.mem_singleton] at hy
      subst hy
      exact ⟨⟨hT.1.1.below hb, hT.1.2.below hb⟩, hT.2.2.2⟩
  have hlow : ∀ y ∈ pre ++ [x], ∀ a, y.1.2.1 = some a → a.block ≠ N ∧ a.block ≠ N + 1 := by
    intro y hy a ha
    obtain ⟨cs, f, hc⟩ := (hR2 y hy).1.2 a ha
    have c0 : (W.alloc tmp).heap[N]? = some (.cells #[v] 27 (0, 0)) := hv.alloc tmp
    have c1 : (W.alloc tmp).heap[N + 1]? = some (.cells #[.int .i64 (lastR pre)] 3 (0, 0)) := b1.alloc tmp
    refine ⟨fun e => ?_, fun e => ?_⟩
    · rw [e, c0] at hc; simp at hc
    · rw [e, c1] at hc; simp at hc
  refine ⟨?_, ⟨hbel, ?_, ?_⟩, ⟨⟨v', (x0.set v').other (by omega) _, ?_, ?_⟩, ?_, z2⟩, ?_, hz, hB.trans hbel⟩
  · refine (((KeepsOthers.alloc W tmp).trans (KeepsOthers.of_grownBy hgrow fun j o ej hj => ?_)).trans (KeepsOthers.setCell _ _ _)).trans (KeepsOthers.setCell _ _ _)
    rcases (hrow.alloc tmp).2 with ⟨rfl, _⟩ | ⟨g, cap, cur, rfl, _, hgb, _⟩
    · simp [Value.ownBlock] at ej
    · obtain rfl : g = j := by simpa [Value.ownBlock] using ej
      rw [hgb] at hj; cases hj; rfl
  · exact (show _ = _ from z2).trans (show _ = _ from b2).symm
  · intro cs t f hc
    have hc1 : (W.alloc tmp).heap[z]? = some (.cells cs t f) := (Below.heap_alloc W tmp z hzl).trans hc
    have hc2 : w1.heap[z]? = some (.cells cs t f) := (hgrow.block z (by simp; omega) (Ne.symm hvz)).trans hc1
    have hs1 : z < w1.heap.size := (Array.getElem?_eq_some_iff.1 hc2).1
    rw [g2.block z (by have := g1.size; omega) (fun e => by cases e; omega), g1.block z hs1 (fun e => by cases e; omega)]
    exact hc2
  · have r1 := (hown'.kept g1 (.inr (by intro e; have := (hown'.lt _ e).1; omega))).kept g2 (.inr (by intro e; have := (hown'.lt _ e).1; omega))
    simpa [RP.flat_snoc] using r1
  · rcases hat with e | e
    · rw [e]; exact hvz
    · rw [e]; intro h; cases h; omega
  · rw [lastR_snoc]
    exact (x1.other (B' := N) (by omega) v').set _
  · refine ((hR2.grown hgrow ?_).grown g1 (fun y hy a ha e => (hlow y hy a ha).1 (Option.some.inj e))).grown g2 (fun y hy a ha e => (hlow y hy a ha).2 (Option.some.inj e))
    intro y hy a ha
    exact inB_row (hR2 y hy).1.2 (hrow.alloc tmp) a ha

set_option maxRecDepth 100000 in
set_option maxHeartbeats 1000000 in
theorem scan_in (n : Nat) (hn : 5 ≤ n) (a : Option Addr) (len cap : Nat) (L : List Int) (w : World) (h9 : len ≤ 90000) (hlen : L.length = len) (h : RowIn .u8 w a cap L) (hnil : a = none → len = 0 ∧ cap = 0) :
    CallsIn Fence.wide n Try.prog 16 #[.slice a len cap] w (ScanIs L w) := by
  have h1 : 1 ≤ n := by omega
  have hro : Fence.wide.round = none := rfl
  have hf14 : Fence.wide.fn 16 := trivial
  have hf20 : Fence.wide.fn 31 := trivial
  have hf21 : Fence.wide.fn 40 := trivial
  obtain ⟨i0, hi, hz0, hz1, hz2⟩ := info_parts info_rec2
  have HL := Lib.hid h
  have HE := Lib.hid hlen
  have HN := Lib.hid hnil
  clear h hlen hnil
  refine callsIn_of_wp_marks Try.func16 rfl hf14 ?_ hro
  simp only [Try.ntmps16, List.size_toArray, List.length_cons, List.length_nil, Nat.reduceAdd, Nat.reduceSub, Array.replicate_succ, Array.replicate_zero, List.push_toArray, List.append_toArray, List.nil_append, List.cons_append]
  gi_wp2_with (gi_at_call 31; refine (records_in (n - 1) a len cap _).mono ?_; rintro e w' ⟨rfl, rfl⟩)
  obtain ⟨w3, hw3⟩ : ∃ w3, (((w.alloc (.cells #[.slice none 0 0] 27)).alloc (.cells #[.int .i64 0] 3)).alloc (.cells #[.slice a len cap] 22)) = w3 := ⟨_, rfl⟩
  have hb : Below w.heap.size w w3 := by rw [← hw3]; exact (((Below.refl _ w).alloc (Nat.le_refl _) _).alloc (by simp) _).alloc (by simp; omega) _
  have hsz : w3.heap.size = w.heap.size + 3 := by rw [← hw3]; simp
  have b0 : Boxed w3 w.heap.size 27 (.slice none 0 0) := by rw [← hw3]; exact ((Boxed.new w 27 _).alloc _).alloc _
  have b1 : Boxed w3 (w.heap.size + 1) 3 (.int .i64 0) := by
    rw [← hw3]; have := (Boxed.new (w.alloc (.cells #[.slice none 0 0] 27)) 3 (.int .i64 0)).alloc (.cells #[.slice a len cap] 22)
    rwa [World.size_alloc] at this
  have b2 : Boxed w3 (w.heap.size + 2) 22 (.slice a len cap) := by
    rw [← hw3]; have := Boxed.new ((w.alloc (.cells #[.slice none 0 0] 27)).alloc (.cells #[.int .i64 0] 3)) 22 (.slice a len cap)
    simpa [World.size_alloc] using this
  rw [hw3]
  clear hw3
  refine wpIn_range_told hro h1 (gf := 40) (lb := #[.pointer (some ⟨w.heap.size + 2, 0, none⟩)]) rfl hf21 (enters_of Try.func40 (by kernel_rfl) rfl)
    (recs_told (n - 1) w.heap.size (w.heap.size + 2) (by omega) a len cap L h9 HE.out w w3 b2 (Nat.le_refl _) hb.size hb HL.out HN.out) (Below.refl _ _) (fun _ => rfl) KpZ.t
    (fun z W l o o' hl hW hc _ => ⟨(Below.refl _ W).grown (grownBy_putObj' W l o') (by have := (Array.getElem?_eq_some_iff.1 hW).1; omega) (fun k e => by cases e; omega), (grownBy_putObj' W l o').block _ (by have := (Array.getElem?_eq_some_iff.1 hW).1; omega) (fun e => by cases e; omega), fun cs t f hz => ((grownBy_putObj' W l o').block _ (Array.getElem?_eq_some_iff.1 hz).1 (fun e => by cases e; rw [hz] at hW; cases hW; cases hc)).trans hz⟩)
    (InvS w w.heap.size (.slice a len cap)) (fun z => inv_own _ _ _ _ z (Nat.le_refl _) (by omega)) (fun z pre V i v h => inv_set i v h)
    (fun z hz => ⟨⟨⟨_, b0, World.ownsRow_nil _ _ _ _, by simp [Value.ownBlock]⟩, b1, b2⟩, (fun y hy => (by cases hy)), by omega, hb⟩)
    (fun z x W => ∃ Bx, (Blok W Bx 24 #[.int .i64 x.2.1.1.1, .slice x.2.1.1.2.1 x.2.1.1.2.2.1 x.2.1.1.2.2.2.1] ∧ x.2.2 = { tmps := #[.slice a len cap, undef, .slice none 0 0, .int .i64 0, .pointer (some ⟨w.heap.size, 0, none⟩), .pointer (some ⟨w.heap.size + 1, 0, none⟩), .pointer (some ⟨Bx, 0, none⟩), .int .i64 x.2.1.2, .slice a len cap, .func (.func 40) #[] #[.pointer (some ⟨w.heap.size + 1 + 1, 0, none⟩)], .agg #[.int .i64 x.2.1.1.1, .slice x.2.1.1.2.1 x.2.1.1.2.2.1 x.2.1.1.2.2.2.1], .int .i64 x.2.1.2, undef, undef, undef, undef, undef, undef, undef], defers := [] }) ∧ InvS w w.heap.size (.slice a len cap) z x.1 W ∧ Told (w.heap.size + 3) z x.2.1 W)
    ?own ?assign ?body ?done
  case own =>
    intro z s X Y row hs hg hr
    obtain ⟨Bx, ⟨h1, h2⟩, h3, h4, h5, h6, h7⟩ := hs
    have hne : ∀ {k : Nat} {cs : Array Value} {t : TypeId}, X.heap[k]? = some (.cells cs t (0, 0)) → some k ≠ row := fun {k cs t} hc e => by
      obtain ⟨_, o, ho, hno⟩ := hr k e.symm
      rw [hc] at ho; cases ho; cases hno
    have hb4 : ∀ x, s.2.1.1.2.1 = some x → some x.block ≠ row := fun x hx e => by
      obtain ⟨cs, f, hc⟩ := h4.2 x hx
      obtain ⟨_, o, ho, hno⟩ := hr x.block e.symm
      rw [hc] at ho; cases ho; cases hno
    exact ⟨Bx, ⟨h1.grown hg (hne h1), h2⟩, inv_own w w.heap.size w3.heap.size (.slice a len cap) z (Nat.le_refl _) (by omega) s.1 X Y row h3 hg hr, ⟨⟨h4.1.1, row_grown h4.1.2.1 hg hb4, h4.1.2.2⟩, inB_grown h4.2 hg hb4⟩, h5, Nat.lt_of_lt_of_le h6 hg.size, h7⟩
  case assign =>
    rintro z l pre ⟨⟨k, a2, n2, c2, B2⟩, t⟩ W K hI hG hK
    have HI := Lib.hid hI
    have HG := Lib.hid hG
    clear hI hG
    rw [hsz] at HG
    gi_wp2
    have hbb := recBox_below W k a2 n2 c2
    have hI := HI.out
    have hG := HG.out
    obtain ⟨⟨⟨v, i1, i2, i3⟩, i4, i5⟩, i6, i7, i8⟩ := hI
    have hwz := i5.lt
    refine hK _ _ ((KeepsOthers.alloc _ _).from _) ⟨hbb.mono (by omega), hbb.block _ hwz, fun cs t f hc => (hbb.block _ hG.2.2.1).trans hc⟩ ⟨W.heap.size, ⟨Blok.new W _ _, rfl⟩, ?_, ⟨⟨hG.1.1.below hbb, hG.1.2.below hbb⟩, hG.2.1, Nat.lt_of_lt_of_le hG.2.2.1 hbb.size, hG.2.2.2⟩⟩
    exact (inv_own w w.heap.size w3.heap.size (.slice a len cap) z (Nat.le_refl _) (by omega)).alloc _ HI.out
  case body =>
    rintro z l pre ⟨⟨k, a2, n2, c2, B2⟩, t⟩ a' W ⟨Bx, ⟨hbx, ha⟩, ⟨⟨⟨v, hv, hrow, hvz⟩, p1, p2⟩, hR, hz, hB⟩, hT⟩ hlt
    dsimp only at hbx ha hv hrow hvz p1 p2 hR hz hB hT
    subst ha
    have c0 : W.cell? ⟨w.heap.size, 0, none⟩ = some v := hv.cell
    have d0 : W.cell? ⟨Bx, 0, none⟩ = some (.int .i64 k) := hbx.cell 0
    have d1 : W.cell? ⟨Bx, 1, none⟩ = some (.slice a2 n2 c2) := hbx.cell 1
    have hws := p2.lt
    have hlt2 : pre.length < len + 1 := by rw [← HE.out]; exact hlt
    obtain ⟨a1, cap1, rfl⟩ := ownsRow_form2 hrow
    have HV := Lib.hid hv
    have HR := Lib.hid (And.intro hR hT)
    have HP := Lib.hid (And.intro p1 p2)
    have HZ := Lib.hid hvz
    clear hv hR hT p1 p2 hvz hbx hlt
    gi_wp2_with (gi_at_builtin; refine wpListIn_append_own_at _ rfl _ _ 27 rfl (w.heap.size + 3) 24 i0 (.agg #[.int .i64 0, .slice none 0 0]) 2 32 Try.underlying27 hi hz0 hz1 hz2 rfl (by decide) (.slice a1 pre.length cap1) pre.length (RP.flat (pre.map Prod.fst)) rfl (hrow.alloc _) ⟨W.heap.size, 0, none⟩ 1 1 [.int .i64 k, .slice a2 n2 c2] rfl rfl (World.news_of_block (cs := #[.int .i64 k, .slice a2 n2 c2]) (heap_alloc_new _ _)) (by simp [Value.oneCell']) (by unfold maxLen; omega) (by omega) (by simp; omega) ?_; intro v' w1 hown' hgrow _ hat; obtain ⟨g', cap', rfl⟩ := ownsRow_succ hown'; have x0 := box_rec hrow hgrow HV.out (by omega); have x1 := box_rec hrow hgrow HP.out.1 (by omega); have d2 : w1.cell? ⟨w.heap.size, 0, none⟩ = some _ := x0.cell; have d3 : w1.cell? ⟨w.heap.size + 1, 0, none⟩ = some _ := x1.cell; have f2 : w1.frozen? ⟨w.heap.size, 0, none⟩ = false := x0.frozen; have f3 : w1.frozen? ⟨w.heap.size + 1, 0, none⟩ = false := x1.frozen; clear x0 x1)
    have hE := scan_body (x := ((k, a2, n2, c2, B2), t)) HV.out hrow HZ.out HP.out.1 HP.out.2 HR.out.1 hz hB HR.out.2 hown' hgrow (by simpa using hat)
    exact ⟨hE.1.from _, hE.2.1, hE.2.2⟩
  case done =>
    rintro z D ys W hD ⟨p, hdn, hls⟩ ⟨⟨⟨v, hv, hrow, hvz⟩, p1, p2⟩, hR, hz, hB⟩ hK
    have c0 : W.cell? ⟨w.heap.size, 0, none⟩ = some v := hv.cell
    have c1 : W.cell? ⟨w.heap.size + 1, 0, none⟩ = some (.int .i64 (p : Int)) := by rw [← hls]; exact p1.cell
    obtain ⟨a1, cap1, rfl⟩ := ownsRow_form2 hrow
    have HRo := Lib.hid hrow
    have HRR := Lib.hid hR
    have HDn := Lib.hid hdn
    clear hv hrow hvz p1 p2 hR hdn hls
    gi_wp2
    gi_region
    all_goals gi_wp2
    have hK' : W.drew.heap[D]? = some (.deferred (some [])) := hK
    refine ⟨by simp, .inl ⟨_, _, rfl, run_takeDeferred hK', ?_⟩⟩
    refine ⟨_, results_tmp2 rfl _ _ _, ?_⟩
    have r1 := ownsRow_putObj (show W.drew.ownsRow (w.heap.size + 3) 24 2 (.slice a1 ys.length cap1) ys.length (RP.flat (ys.map Prod.fst)) from HRo.out) (.deferred none) hK' rfl
    have r2 := (rows_own w3.heap.size z).putObj (W := W.drew) (.deferred none) (show RowsOf z ys W.drew from HRR.out) hD hK' rfl
    refine .mk HDn.out (by simp) r1 ?_ (hB.drew.trans (belowK_b (w := w) (Nat.le_refl _) W.drew D _ _ (by omega) hK' rfl rfl))
    intro x hx
    obtain ⟨y, hy, rfl⟩ := List.mem_map.1 hx
    exact (r2 y hy).1

/-- **Scan**, at whatever slice of bytes. -/
theorem scan_any (a : Option Addr) (len cap : Nat) (L : List Int) (w : World) (h9 : len ≤ 90000) (hl : L.length = len) (h : RowIn .u8 w a cap L) (hn : a = none → len = 0 ∧ cap = 0) :
    Calls Try.prog 16 #[.slice a len cap] w (ScanIs L w) := (callsIn_wide (n := 5)).1 (scan_in 5 (by omega) a len cap L w h9 hl h hn)
end Go.Proofs.Ytnpgjndhkmpciaa
