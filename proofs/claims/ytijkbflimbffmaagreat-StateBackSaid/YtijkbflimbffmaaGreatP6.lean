import Derived.ArgAppend
import Derived.Laws.OwnMore
import Derived.Deep.AppendLies
import Derived.Deep.RegionLaw
import Derived.WalkLawsBesides
import Derived.Deep.RegionWith
import Derived.WalkMore
import Derived.Lib.QuietBelow
import Derived.BigQuiet
import Derived.Test.YtijkbflimbffmaaGreatP5
import Derived.Test.YtijkbflimbffmaaGreatP0
import Derived.Test.YtijkbflimbffmaaGreatP1
import Derived.Test.YtijkbflimbffmaaGreatP4
namespace Go.Proofs.YtijkbflimbffmaaGreat
namespace J
open Y
def b1 (b : Bool) : Int := if b = true then 1 else 0
def plN : List O.Pl -> List Int
 | [] => []
 | p :: l => p.f :: p.n :: p.s :: plN l
def nums15 (s : St) : List Int := [s.d.b, s.d.k, s.d.c, s.d.j, s.d.lo, s.d.hi, s.d.dy, s.d.bl, s.p.q, s.p.i, s.p.h, b1 s.p.pair, s.now, (s.l.length : Int), (s.h.length : Int)]
def nums (s : St) : List Int := nums15 s ++ plN s.ps
def lN (x : L.Ls) : Int := x.s * 32 + x.a * 8 + x.b
def hN (x : L.T3) : Int := x.a * 8 + x.b
def pt1 (s : St) : Option (List Int) := M.all (nums s)
def pt2 (s : St) : Option (List Int) := K.pack (s.l.map lN) 10
def pt3 (s : St) : Option (List Int) := Z.steps (s.l.map fun x => x.f)
def pt4 (s : St) : Option (List Int) := K.pack (s.h.map hN) 5
def pt5 (s : St) : Option (List Int) := Z.steps (s.h.map fun x => x.x)
def parts (s : St) : List (List Int) := [(pt1 s).getD [], (pt2 s).getD [], (pt3 s).getD [], (pt4 s).getD [], (pt5 s).getD []]
def one (b : List Int) : List Int := M.put (b.length : Int) ++ b
def bytes (s : St) : List Int := (parts s).flatMap one
def ok (s : St) : Prop := May s /\ ∀ x ∈ s.l, x.t = s.now
instance (s : St) : Decidable (ok s) := by unfold ok; exact inferInstance
def put (s : St) : Option (List Int) := if ok s then some (bytes s) else none
theorem put_yes {s : St} (h : ok s) : put s = some (bytes s) := by unfold put; rw [if_pos h]
theorem put_no {s : St} (h : ¬ ok s) : put s = none := by unfold put; rw [if_neg h]
theorem zc7 {s : St} {b : List Int} : put s = some b ↔ ok s /\ b = bytes s := by
 unfold put
 constructor
 ·intro h
  split at h
  ·cases h; exact ⟨by assumption, rfl⟩
  ·cases h
 ·rintro ⟨h, rfl⟩; rw [if_pos h]
theorem plN_len : ∀ (l : List O.Pl), (plN l).length = 3 * l.length
 | [] => rfl
 | p :: l => by simp [plN, plN_len l]; omega
theorem plN_snoc : ∀ (l : List O.Pl) (x : O.Pl), plN (l ++ [x]) = plN l ++ [x.f, x.n, x.s]
 | [], _ => rfl
 | p :: l, x => by simp [plN, plN_snoc l x]
theorem plN_mem : ∀ {l : List O.Pl} {n : Int}, n ∈ plN l -> ∃ p ∈ l, n = p.f \/ n = p.n \/ n = p.s
 | p :: l, n, h => by
  simp only [plN, List.mem_cons] at h
  rcases h with h | h | h | h
  ·exact ⟨p, by simp, .inl h⟩
  ·exact ⟨p, by simp, .inr (.inl h)⟩
  ·exact ⟨p, by simp, .inr (.inr h)⟩
  ·obtain ⟨q, hq, e⟩ := plN_mem h
   exact ⟨q, by simp [hq], e⟩
theorem nums_len (s : St) : (nums s).length = 15 + 3 * s.ps.length := by unfold nums nums15; rw [List.length_append, plN_len]; rfl
theorem ls_in {s : St} (hm : May s) {x : L.Ls} (hx : x ∈ s.l) : (0 <= x.s /\ x.s < 32) /\ (0 <= x.a /\ x.a < 4) /\ (0 <= x.b /\ x.b < 8) /\ 0 <= x.f /\ x.f <= 1073741824 := by
 obtain ⟨m1, m2, m3, m4, m5, m6, m7, m8, m9⟩ := hm
 obtain ⟨k1, k2, k3, k4, k5, k6, k7, k8, k9⟩ := m7 x hx
 have h1 := (E.baseB_iff.1 k1).2
 have h2 := (E.fits_iff.1 m1).ni
 have h3 := blkB_in k2
 have h4 := (E.fits_iff.1 m1).no
 have h5 := nb_in m1
 omega
theorem hd_in {s : St} (hm : May s) {y : L.T3} (hy : y ∈ s.h) : (0 <= y.a /\ y.a < 4) /\ (0 <= y.b /\ y.b < 8) /\ 0 <= y.x /\ y.x <= 1074790400 := by
 obtain ⟨m1, m2, m3, m4, m5, m6, m7, m8, m9⟩ := hm
 obtain ⟨k1, k2, k3, k4⟩ := m9 y hy
 have h3 := blkB_in k1
 have h4 := (E.fits_iff.1 m1).no
 have h5 := nb_in m1
 omega
theorem held_len {s : St} (hm : May s) : s.h.length <= 32 := by
 have := inc_len (l := s.h.map fun x => x.a * 8 + x.b) (a := 0) (b := 32)
  (by
   rw [List.pairwise_map]
   refine List.Pairwise.imp_of_mem (R := LtH) (fun {x y} hx hy h => ?_) hm.2.2.2.2.2.2.2.1
   have e1 := hd_in hm hx
   have e2 := hd_in hm hy
   unfold LtH at h; omega)
  (fun z hz => by
   obtain ⟨x, hx, rfl⟩ := List.mem_map.1 hz
   have := hd_in hm hx; omega)
  (by omega)
 rw [List.length_map] at this
 omega
theorem b1_in (b : Bool) : 0 <= b1 b /\ b1 b <= 1 := by unfold b1; split <;> omega
theorem size_in {b k : Int} (h : 1 <= A.size b k) : (0 <= b /\ b < 4294967296) /\ 0 <= k /\ k <= 32 := by
 have h1 := A.size_pos (b := b) (k := k) (by omega)
 have h2 := h1.1
 unfold A.may at h2
 have := of_decide_eq_true h2
 omega
theorem nums_bd {s : St} (hm : May s) : ∀ n ∈ nums s, 0 <= n /\ n < 4294967296 := by
 have hh := held_len hm
 obtain ⟨m1, m2, m3, m4, m5, m6, m7, m8, m9⟩ := hm
 have hf := E.fits_iff.1 m1
 have h1 := size_in hf.ni.1
 have h2 := size_in hf.no.1
 have h3 := hf.lo
 have h4 := hf.dy
 have h5 := hf.bl
 have h6 := b1_in s.p.pair
 unfold MayP at m2
 intro n hn
 unfold nums nums15 at hn
 rw [List.mem_append] at hn
 rcases hn with hn | hn
 ·simp only [List.mem_cons, List.not_mem_nil, or_false] at hn
  rcases hn with rfl | rfl | rfl | rfl | rfl | rfl | rfl | rfl | rfl | rfl | rfl | rfl | rfl | rfl | rfl <;> omega
 ·obtain ⟨p, hp, e⟩ := plN_mem hn
  have := O.fits_iff.1 (m3.2.2.2.1 p hp)
  have := m3.2.1
  omega
theorem nums_isn {s : St} (hm : May s) : ∀ n ∈ nums s, M.isn n := fun n hn => by
 have := nums_bd hm n hn
 unfold M.isn; omega
theorem nums_few {s : St} (hm : May s) : (nums s).length <= 24 := by
 have := hm.2.2.1.2.2.1
 rw [nums_len]; omega
theorem pt1_yes {s : St} (hm : May s) : pt1 s = some ((nums s).flatMap M.put) := zpa (by have := nums_few hm; omega) (nums_isn hm)
theorem pt1_yes' {s : St} (hm : May s) : pt1 s = some ((pt1 s).getD []) := by rw [pt1_yes hm]; rfl
theorem lN_in {s : St} (hm : May s) : K.isd (2 ^ 10) (s.l.map lN) := by
 intro n hn
 obtain ⟨x, hx, rfl⟩ := List.mem_map.1 hn
 have := ls_in hm hx
 unfold lN
 omega
theorem hN_in {s : St} (hm : May s) : K.isd (2 ^ 5) (s.h.map hN) := by
 intro n hn
 obtain ⟨x, hx, rfl⟩ := List.mem_map.1 hn
 have := hd_in hm hx
 unfold hN
 omega
theorem pt2_yes {s : St} (hm : May s) : pt2 s = some ((pt2 s).getD []) := by
 have h : pt2 s = some _ := (K.pack_some (w := 10)).2 ⟨by rw [List.length_map]; have := hm.2.2.2.2.1; omega, by decide, lN_in hm, rfl⟩
 rw [h]; rfl
theorem pt4_yes {s : St} (hm : May s) : pt4 s = some ((pt4 s).getD []) := by
 have h : pt4 s = some _ := (K.pack_some (w := 5)).2 ⟨by rw [List.length_map]; have := held_len hm; omega, by decide, hN_in hm, rfl⟩
 rw [h]; rfl
theorem pt3_yes {s : St} (hm : May s) : pt3 s = some ((pt3 s).getD []) := by
 have h : pt3 s = some _ := Z.steps_some.2 ⟨by rw [List.length_map]; have := hm.2.2.2.2.1; omega, fun n hn => by
  obtain ⟨x, hx, rfl⟩ := List.mem_map.1 hn
  have := ls_in hm hx
  unfold Z.isl; omega, rfl⟩
 rw [h]; rfl
theorem pt5_yes {s : St} (hm : May s) : pt5 s = some ((pt5 s).getD []) := by
 have h : pt5 s = some _ := Z.steps_some.2 ⟨by rw [List.length_map]; have := held_len hm; omega, fun n hn => by
  obtain ⟨x, hx, rfl⟩ := List.mem_map.1 hn
  have := hd_in hm hx
  unfold Z.isl; omega, rfl⟩
 rw [h]; rfl
theorem put_len5 {n : Int} (h0 : 0 <= n) (h1 : n < 4294967296) : 1 <= (M.put n).length /\ (M.put n).length <= 5 := by
 rw [M.put_yes (by omega) (by omega)]
 exact ⟨M.puts_pos _, M.puts_len_le 4 _ (by omega)⟩
theorem flat_bd {l : List Int} (h : ∀ n ∈ l, 0 <= n /\ n < 4294967296) : (l.flatMap M.put).length <= 5 * l.length := by
 induction l with
 | nil => simp
 | cons n l ih =>
  have h1 := ih (fun x hx => h x (by simp [hx]))
  have h2 := put_len5 (h n (by simp)).1 (h n (by simp)).2
  rw [List.flatMap_cons, List.length_append, List.length_cons]; omega
theorem pl_bd : ∀ (l : List Int) (p : Int), (0 <= p /\ p < 2147483648) -> (∀ n ∈ l, 0 <= n /\ n < 2147483648) -> ∀ k ∈ Z.pl p l, 0 <= k /\ k < 4294967296
 | [], _, _, _, k, hk => by simp [Z.pl] at hk
 | n :: l, p, hp, h, k, hk => by
  have hn := h n (by simp)
  simp only [Z.pl, List.mem_cons] at hk
  rcases hk with rfl | hk
  ·rw [Z.zig_in (by omega)]; split <;> omega
  ·exact pl_bd l n hn (fun x hx => h x (by simp [hx])) k hk
theorem steps_bd {l b : List Int} (h : Z.steps l = some b) (hb : ∀ n ∈ l, 0 <= n /\ n < 2147483648) : b.length <= 5 * l.length := by
 obtain ⟨-, -, rfl⟩ := Z.steps_some.1 h
 have := flat_bd (pl_bd l 0 (by omega) hb)
 rwa [Z.pl_len] at this
theorem parts_len {s : St} (hm : May s) : ((pt1 s).getD []).length <= 120 /\ ((pt2 s).getD []).length <= 40 /\ ((pt3 s).getD []).length <= 160 /\ ((pt4 s).getD []).length <= 20 /\ ((pt5 s).getD []).length <= 160 := by
 have hl := hm.2.2.2.2.1
 have hh := held_len hm
 refine ⟨?_, ?_, ?_, ?_, ?_⟩
 ·rw [pt1_yes hm]
  have h1 := flat_bd (nums_bd hm)
  have h2 := nums_few hm
  simp only [Option.getD_some]; omega
 ·have := K.pack_len (w := 10) (pt2_yes hm)
  rw [List.length_map] at this; omega
 ·have := steps_bd (pt3_yes hm) (fun n hn => by
   obtain ⟨x, hx, rfl⟩ := List.mem_map.1 hn
   have := ls_in hm hx; omega)
  rw [List.length_map] at this; omega
 ·have := K.pack_len (w := 5) (pt4_yes hm)
  rw [List.length_map] at this; omega
 ·have := steps_bd (pt5_yes hm) (fun n hn => by
   obtain ⟨x, hx, rfl⟩ := List.mem_map.1 hn
   have := hd_in hm hx; omega)
  rw [List.length_map] at this; omega
theorem one_len {b : List Int} {k : Nat} (h : b.length <= k) (hk : k < 16384) : (one b).length <= k + 2 /\ M.isn (b.length : Int) := by
 have h1 : (M.put (b.length : Int)).length <= 2 := by
  rw [M.put_yes (by omega) (by omega)]
  exact M.puts_len_le 1 _ (by omega)
 unfold one M.isn
 rw [List.length_append]; omega
theorem bytes_len {s : St} (hm : May s) : (bytes s).length <= 600 := by
 obtain ⟨h1, h2, h3, h4, h5⟩ := parts_len hm
 have a1 := (one_len h1 (by omega)).1
 have a2 := (one_len h2 (by omega)).1
 have a3 := (one_len h3 (by omega)).1
 have a4 := (one_len h4 (by omega)).1
 have a5 := (one_len h5 (by omega)).1
 unfold bytes parts
 simp only [List.flatMap_cons, List.flatMap_nil, List.append_nil, List.length_append]
 omega
theorem parts_isn {s : St} (hm : May s) : ∀ b ∈ parts s, M.isn (b.length : Int) := by
 obtain ⟨h1, h2, h3, h4, h5⟩ := parts_len hm
 intro b hb
 unfold parts at hb
 simp only [List.mem_cons, List.not_mem_nil, or_false] at hb
 unfold M.isn
 rcases hb with rfl | rfl | rfl | rfl | rfl <;> omega
theorem parts_byte (s : St) : ∀ b ∈ parts s, ∀ c ∈ b, (Lit.int .u8 c).wf = true := by
 intro b hb
 unfold parts at hb
 simp only [List.mem_cons, List.not_mem_nil, or_false] at hb
 rcases hb with rfl | rfl | rfl | rfl | rfl
 ·exact zsn _
 ·exact K.pack_wf _ _
 ·exact Z.steps_wf _
 ·exact K.pack_wf _ _
 ·exact Z.steps_wf _
theorem bytes_byte (s : St) : ∀ c ∈ bytes s, (Lit.int .u8 c).wf = true := by
 intro c hc
 obtain ⟨b, hb, hc⟩ := List.mem_flatMap.1 hc
 unfold one at hc
 rcases List.mem_append.1 hc with hc | hc
 ·exact zn4 hc
 ·exact parts_byte s b hb c hc
theorem one_head {b : List Int} (h : M.isn (b.length : Int)) (r : List Int) : M.head (one b ++ r) = some ((b.length : Int), (M.put (b.length : Int)).length) := by
 unfold one
 rw [List.append_assoc]
 exact zoi h _
theorem one_append {b c r t : List Int} (hb : M.isn (b.length : Int)) (hc : M.isn (c.length : Int)) (h : one b ++ r = one c ++ t) : b = c /\ r = t := by
 have h1 := one_head hb r
 rw [h, one_head hc t] at h1
 have e : (c.length : Int) = (b.length : Int) := by simpa using congrArg (Option.map Prod.fst) h1
 have e2 : c.length = b.length := by omega
 unfold one at h
 rw [e2, List.append_assoc, List.append_assoc] at h
 have h2 := List.append_cancel_left h
 exact List.append_inj h2 e2.symm
theorem parts_append : ∀ (P Q : List (List Int)) (r : List Int), P.length = Q.length -> (∀ b ∈ P, M.isn (b.length : Int)) -> (∀ b ∈ Q, M.isn (b.length : Int)) -> P.flatMap one ++ r = Q.flatMap one -> P = Q /\ r = []
 | [], [], r, _, _, _, h => ⟨rfl, by simpa using h⟩
 | [], _ :: _, _, h, _, _, _ => by simp at h
 | _ :: _, [], _, h, _, _, _ => by simp at h
 | b :: P, c :: Q, r, hl, hp, hq, h => by
  rw [List.flatMap_cons, List.flatMap_cons, List.append_assoc] at h
  obtain ⟨rfl, h2⟩ := one_append (hp b (by simp)) (hq c (by simp)) h
  obtain ⟨rfl, h3⟩ := parts_append P Q r (by simpa using hl) (fun x hx => hp x (by simp [hx])) (fun x hx => hq x (by simp [hx])) h2
  exact ⟨rfl, h3⟩
theorem plN_inj : ∀ {l k : List O.Pl}, plN l = plN k -> l = k
 | [], [], _ => rfl
 | [], _ :: _, h => by simp [plN] at h
 | _ :: _, [], h => by simp [plN] at h
 | p :: l, q :: k, h => by
  simp only [plN, List.cons.injEq] at h
  obtain ⟨h1, h2, h3, h4⟩ := h
  rw [plN_inj h4]
  congr 1
  cases p; cases q; simp_all
theorem b1_inj {a b : Bool} (h : b1 a = b1 b) : a = b := by
 cases a <;> cases b <;> simp [b1] at h ⊢
theorem map_inj_of {α β : Type} {f : α -> β} : ∀ {l k : List α}, (∀ x ∈ l, ∀ y ∈ k, f x = f y -> x = y) -> l.map f = k.map f -> l = k
 | [], [], _, _ => rfl
 | [], _ :: _, _, h => by simp at h
 | _ :: _, [], _, h => by simp at h
 | x :: l, y :: k, hf, h => by
  simp only [List.map_cons, List.cons.injEq] at h
  rw [hf x (by simp) y (by simp) h.1, map_inj_of (fun a ha b hb => hf a (by simp [ha]) b (by simp [hb])) h.2]
theorem two_map {α : Type} {f g : α -> Int} : ∀ {l k : List α}, l.map f = k.map f -> l.map g = k.map g -> l.map (fun x => (f x, g x)) = k.map (fun x => (f x, g x))
 | [], [], _, _ => rfl
 | [], _ :: _, h, _ => by simp at h
 | _ :: _, [], h, _ => by simp at h
 | x :: l, y :: k, h, h2 => by
  simp only [List.map_cons, List.cons.injEq] at h h2 ⊢
  exact ⟨by rw [h.1, h2.1], two_map h.2 h2.2⟩
theorem parts_inj {s t : St} (hs : ok s) (ht : ok t) (h : parts s = parts t) : s = t := by
 obtain ⟨ms, ls⟩ := hs
 obtain ⟨mt, lt⟩ := ht
 unfold parts at h
 simp only [List.cons.injEq, and_true] at h
 obtain ⟨h1, h2, h3, h4, h5⟩ := h
 rw [pt1_yes ms, pt1_yes mt] at h1
 have e1 := zqi (nums_isn ms) (nums_isn mt) (by simpa using h1)
 unfold nums at e1
 obtain ⟨e2, e3⟩ := List.append_inj e1 rfl
 unfold nums15 at e2
 simp only [List.cons.injEq, and_true] at e2
 obtain ⟨d1, d2, d3, d4, d5, d6, d7, d8, p1, p2, p3, p4, n1, l1, l2⟩ := e2
 have e4 : s.l.length = t.l.length := by omega
 have e5 : s.h.length = t.h.length := by omega
 have g2 := K.pack_inj (w := 10) (pt2_yes ms) (by rw [h2]; exact pt2_yes mt) (by simpa using e4)
 have g3 := Z.steps_inj (pt3_yes ms) (by rw [h3]; exact pt3_yes mt)
 have g4 := K.pack_inj (w := 5) (pt4_yes ms) (by rw [h4]; exact pt4_yes mt) (by simpa using e5)
 have g5 := Z.steps_inj (pt5_yes ms) (by rw [h5]; exact pt5_yes mt)
 refine st_ext ?_ ?_ n1 (plN_inj e3) ?_ ?_
 ·obtain ⟨⟨_, _, _, _, _, _, _, _⟩, _, _, _, _, _⟩ := s
  obtain ⟨⟨_, _, _, _, _, _, _, _⟩, _, _, _, _, _⟩ := t
  simp only at d1 d2 d3 d4 d5 d6 d7 d8
  simp only [d1, d2, d3, d4, d5, d6, d7, d8]
 ·have p4' := b1_inj p4
  obtain ⟨_, ⟨_, _, _, _⟩, _, _, _, _⟩ := s
  obtain ⟨_, ⟨_, _, _, _⟩, _, _, _, _⟩ := t
  simp only at p1 p2 p3 p4'
  simp only [p1, p2, p3, p4']
 ·refine map_inj_of (f := fun x => (lN x, x.f)) (fun x hx y hy e => ?_) (two_map g2 g3)
  have a1 := ls_in ms hx
  have a2 := ls_in mt hy
  have a3 := ls x hx
  have a4 := lt y hy
  simp only [Prod.mk.injEq] at e
  unfold lN at e
  exact ls_ext (by omega) (by omega) (by omega) e.2 (by omega)
 ·refine map_inj_of (f := fun x => (hN x, x.x)) (fun x hx y hy e => ?_) (two_map g4 g5)
  have a1 := hd_in ms hx
  have a2 := hd_in mt hy
  simp only [Prod.mk.injEq] at e
  unfold hN at e
  have b1 : x.a = y.a := by omega
  have b2 : x.b = y.b := by omega
  obtain ⟨_, _, _⟩ := x
  obtain ⟨_, _, _⟩ := y
  simp only at b1 b2 e
  simp only [b1, b2, e.2]
theorem put_prefix {s t : St} {b r : List Int} (hs : put s = some b) (ht : put t = some (b ++ r)) : s = t /\ r = [] := by
 obtain ⟨gs, d⟩ := zc7.1 hs
 obtain ⟨gt, e⟩ := zc7.1 ht
 obtain ⟨h1, h2⟩ := parts_append (parts s) (parts t) r rfl (parts_isn gs.1) (parts_isn gt.1) (by rw [d] at e; exact e)
 exact ⟨parts_inj gs gt h1, h2⟩
theorem put_inj {s t : St} {b : List Int} (hs : put s = some b) (ht : put t = some b) : s = t := (put_prefix (r := []) hs (by simpa using ht)).1
open Classical in
noncomputable def read (b : List Int) : Option St := if h : ∃ s, put s = some b then some (Classical.choose h) else none
theorem read_some {s : St} {b : List Int} : read b = some s ↔ put s = some b := by
 unfold read
 constructor
 ·intro h
  split at h
  ·next hh => cases h; exact Classical.choose_spec hh
  ·cases h
 ·intro h
  have hh : ∃ s, put s = some b := ⟨s, h⟩
  rw [dif_pos hh, put_inj h (Classical.choose_spec hh)]
theorem read_none {b : List Int} (h : ∀ s, put s ≠ some b) : read b = none := by
 cases hr : read b with
 | none => rfl
 | some s => exact absurd (read_some.1 hr) (h s)
theorem read_cut {s : St} {b : List Int} {k : Nat} (hs : put s = some b) (hk : k < b.length) : read (b.take k) = none := read_none fun t ht => by
 have := (put_prefix ht (r := b.drop k) (by rw [List.take_append_drop]; exact hs)).2
 rw [List.drop_eq_nil_iff] at this; omega
theorem read_more {s : St} {b r : List Int} (hs : put s = some b) (hr : r ≠ []) : read (b ++ r) = none := read_none fun _ ht => hr (put_prefix hs ht).2
theorem settled_ok {s : St} {n : Int} (h : can s n) : ok (settled s n) := ⟨settled_may h.1 h.2.1 h.2.2, fun x hx => by
 obtain ⟨y, _, rfl⟩ := List.mem_map.1 hx; rfl⟩
theorem ok_settled {s : St} (h : ok s) : settled s s.now = s /\ can s s.now := ⟨settled_now h.1 h.2, h.1, Int.le_refl _, h.1.2.2.2.1.2⟩
end J
end Go.Proofs.YtijkbflimbffmaaGreat
namespace Go.Proofs.YtijkbflimbffmaaGreat
open Go.RowKit
namespace J
theorem aw1 : apply (⟨⟨167772160, 31, 184549376, 32, 1000, 1099, 20, 10⟩, ⟨1, 9, 5, false⟩, 0, [], [], []⟩ : Y.St) (⟨2, 0, 0, 1, 0, ⟨0, 0, 0, false⟩⟩ : Y.Ev) = ((⟨⟨167772160, 31, 184549376, 32, 1000, 1099, 20, 10⟩, ⟨1, 9, 5, false⟩, 0, [⟨0, 1, 0⟩], [], []⟩ : Y.St), 0) := by kernel_rfl
theorem aw2 : apply (⟨⟨167772160, 31, 184549376, 32, 1000, 1099, 20, 10⟩, ⟨1, 9, 5, false⟩, 0, [⟨0, 1, 0⟩], [], []⟩ : Y.St) (⟨0, 3, 0, 0, 0, ⟨0, 0, 0, false⟩⟩ : Y.Ev) = ((⟨⟨167772160, 31, 184549376, 32, 1000, 1099, 20, 10⟩, ⟨1, 9, 5, false⟩, 3, [⟨0, 1, 0⟩], [⟨0, 0, 0, 3, 3⟩], []⟩ : Y.St), 0) := by kernel_rfl
theorem aw3 : ok (⟨⟨167772160, 31, 184549376, 32, 1000, 1099, 20, 10⟩, ⟨1, 9, 5, false⟩, 3, [⟨0, 1, 0⟩], [⟨0, 0, 0, 3, 3⟩], []⟩ : Y.St) := ⟨by decide +kernel, by decide +kernel⟩
theorem aw4 : settle (⟨⟨167772160, 31, 184549376, 32, 1000, 1099, 20, 10⟩, ⟨1, 9, 5, false⟩, 3, [⟨0, 1, 0⟩], [⟨0, 0, 0, 3, 3⟩], []⟩ : Y.St) 7 = ((⟨⟨167772160, 31, 184549376, 32, 1000, 1099, 20, 10⟩, ⟨1, 9, 5, false⟩, 7, [⟨0, 1, 0⟩], [⟨0, 0, 0, 3, 7⟩], []⟩ : Y.St), true) := by kernel_rfl
end J
end Go.Proofs.YtijkbflimbffmaaGreat
namespace Go.Proofs.YtijkbflimbffmaaGreat
open Go.RowKit
class V.Rec (α : Type) where
 k : Nat
 cells : α -> List Value
 len : ∀ x, (cells x).length = k
 pos : 0 < k /\ k <= 16
 one : ∀ x, ∀ u ∈ cells x, u.oneCell' = true
instance : V.Rec Y.Ev := ⟨9, fun x => [.int .i64 x.k, .int .i64 x.t, .int .i64 x.a, .int .i64 x.b, .int .i64 x.c, .int .i64 x.p.q, .int .i64 x.p.i, .int .i64 x.p.h, .bool x.p.pair], fun _ => rfl, by decide, fun x u hu => by
 simp only [List.mem_cons, List.not_mem_nil, or_false] at hu
 rcases hu with rfl | rfl | rfl | rfl | rfl | rfl | rfl | rfl | rfl <;> rfl⟩
def V.cells {α : Type} [V.Rec α] (x : α) : List Value := V.Rec.cells x
def V.flat {α : Type} [V.Rec α] (l : List α) : List Value := l.flatMap V.cells
def VIn {α : Type} [V.Rec α] (w : World) (a : Option Addr) (n c : Nat) (l : List α) : Prop :=
 l.length = n /\ (n <= c /\ c <= maxLen) /\ (a = none -> n = 0 /\ c = 0) /\ (l = [] \/ ∃ b off, a = some ⟨b, off, none⟩ /\ b < w.heap.size /\ ∀ i x, l[i]? = some x -> ∀ j u, (V.cells x)[j]? = some u -> w.cell? ⟨b, off + i * V.Rec.k α + j, none⟩ = some u)
theorem VIn.nil {α : Type} [V.Rec α] (w : World) : VIn w none 0 0 ([] : List α) := ⟨rfl, ⟨Nat.le_refl _, by simp [maxLen]⟩, fun _ => ⟨rfl, rfl⟩, .inl rfl⟩
def Y.pval (p : Y.Po) : Value := .agg #[.int .i64 p.q, .int .i64 p.i, .int .i64 p.h, .bool p.pair]
namespace V
end V
end Go.Proofs.YtijkbflimbffmaaGreat
namespace Go.Proofs.YtijkbflimbffmaaGreat
open Go.RowKit
namespace Y
structure A9 where
 ap : Option Addr
 np : Nat
 cp : Nat
 al : Option Addr
 nl : Nat
 cl : Nat
 ah : Option Addr
 nh : Nat
 ch : Nat
structure SIn (w : World) (A : A9) (s : St) : Prop where
 p : QIn w A.ap A.np A.cp s.ps
 l : RIn w A.al A.nl A.cl s.l
 h : RIn w A.ah A.nh A.ch s.h
theorem SIn.below {w w' : World} {A : A9} {s : St} (h : SIn w A s) (hb : Below w.heap.size w w') : SIn w' A s := ⟨h.p.below hb, h.l.below hb, h.h.below hb⟩
structure Fits (A : A9) (s : St) : Prop where
 p : A.np <= 600
 l : A.nl <= 600
 h : A.nh <= 600
 sm : O.Sm s.ps
 b : s.d.b <= 9223372036854775807
 c : s.d.c <= 9223372036854775807
def cs (s : St) (A : A9) : List Value := [.int .i64 s.d.b, .int .i64 s.d.k, .int .i64 s.d.c, .int .i64 s.d.j, .int .i64 s.d.lo, .int .i64 s.d.hi, .int .i64 s.d.dy, .int .i64 s.d.bl, .int .i64 s.p.q, .int .i64 s.p.i, .int .i64 s.p.h, .bool s.p.pair, .int .i64 s.now, .slice A.ap A.np A.cp, .slice A.al A.nl A.cl, .slice A.ah A.nh A.ch]
def val (s : St) (A : A9) : Value := .agg #[.int .i64 s.d.b, .int .i64 s.d.k, .int .i64 s.d.c, .int .i64 s.d.j, .int .i64 s.d.lo, .int .i64 s.d.hi, .int .i64 s.d.dy, .int .i64 s.d.bl, .int .i64 s.p.q, .int .i64 s.p.i, .int .i64 s.p.h, .bool s.p.pair, .int .i64 s.now, .slice A.ap A.np A.cp, .slice A.al A.nl A.cl, .slice A.ah A.nh A.ch]
def ws (s : St) (A : A9) (ve : Value) (E x y : Int) : List Value := [.int .i64 s.d.b, .int .i64 s.d.k, .int .i64 s.d.c, .int .i64 s.d.j, .int .i64 s.d.lo, .int .i64 s.d.hi, .int .i64 s.d.dy, .int .i64 s.d.bl, .int .i64 s.p.q, .int .i64 s.p.i, .int .i64 s.p.h, .bool s.p.pair, .int .i64 s.now, .slice A.ap A.np A.cp, .slice A.al A.nl A.cl, .slice A.ah A.nh A.ch, ve, .int .i64 E, .int .i64 x, .int .i64 y]
def eval (e : Ev) : Value := .agg #[.int .i64 e.k, .int .i64 e.t, .int .i64 e.a, .int .i64 e.b, .int .i64 e.c, .int .i64 e.p.q, .int .i64 e.p.i, .int .i64 e.p.h, .bool e.p.pair]
def rs (r : Rq) : List Value := [.int .i64 r.k, .int .i64 r.s, .int .i64 r.a, .int .i64 r.b, .int .i64 r.n, .int .i64 r.p.q, .int .i64 r.p.i, .int .i64 r.p.h, .bool r.p.pair]
variable {w : World} {g : Nat} {t : TypeId} {s : St} {A : A9} {ve : Value} {E x y : Int}
def Off (g : Nat) (a : Option Addr) : Prop := ∀ x, a = some x -> x.block ≠ g
theorem off_row {α : Type} [L.Rec α] {w' : World} {a : Option Addr} {n c : Nat} {l : List α} {g : Nat} (h : RIn w a n c l) (ho : Off g a) (hg : w.grownBy w' (some g)) : RIn w' a n c l :=
 h.grown hg (fun x hx e => ho x hx (Option.some.inj e))
theorem off_pool {w' : World} {a : Option Addr} {n c : Nat} {l : List O.Pl} {g : Nat} (h : QIn w a n c l) (ho : Off g a) (hg : w.grownBy w' (some g)) : QIn w' a n c l :=
 h.grown hg (fun x hx e => ho x hx (Option.some.inj e))
theorem off_own {k n B : Nat} {tt : TypeId} {a : Option Addr} {m c : Nat} {xs : List Value} (h : w.ownsRow B tt k (.slice a m c) n xs) (hg : g < B) : Off g a := by
 intro z hz e
 subst hz
 rcases h.2 with ⟨h0, _⟩ | ⟨q, cap, cur, h1, h2, _⟩
 ·cases h0
 ·cases h1; simp at e; omega
end Y
end Go.Proofs.YtijkbflimbffmaaGreat
namespace Go.Proofs.YtijkbflimbffmaaGreat
open Go.RowKit
theorem zap {w w' : World} {b i : Nat} {v : Value} (h : w.cell? ⟨b, i, none⟩ = some v) (hb : Below w.heap.size w w') : w'.cell? ⟨b, i, none⟩ = some v := by
 have hlt : b < w.heap.size := World.block_lt_of_cell? (a := ⟨b, i, none⟩) _ h
 unfold World.cell? at h ⊢
 rw [hb.block b hlt]; exact h
end Go.Proofs.YtijkbflimbffmaaGreat
namespace Go.Proofs.YtijkbflimbffmaaGreat
set_option maxHeartbeats 400000
open Go.RowKit
theorem zbe (p : Y.Po) (v : Bool) (hv : decide (Y.MayP p) = v) (w : World) :
  Calls Tryz.prog 65 #[Y.pval p] w fun e w' => e = .returned (.bool v) /\ Below w.heap.size w w' := by
 have HV := Zh hv
 have HB := Zh (((Below.refl w.heap.size w).alloc (Nat.le_refl _) (.cells #[.int .i64 p.q, .int .i64 p.i, .int .i64 p.h, .bool p.pair] 27)))
 clear hv
 unfold Y.pval
 go_enter Tryz.func65, Tryz.ntmps65
 by_cases k0 : 1 <= p.q
 ·have d0 : decide (1 <= p.q) = true := decide_eq_true k0
  by_cases k1 : p.q <= 8
  ·have d1 : decide (p.q <= 8) = true := decide_eq_true k1
   by_cases k2 : 1 <= p.i
   ·have d2 : decide (1 <= p.i) = true := decide_eq_true k2
    by_cases k3 : p.i <= 1048576
    ·have d3 : decide (p.i <= 1048576) = true := decide_eq_true k3
     by_cases k4 : 0 <= p.h
     ·have d4 : decide (0 <= p.h) = true := decide_eq_true k4
      by_cases k5 : p.h <= 1048576
      ·have d5 : decide (p.h <= 1048576) = true := decide_eq_true k5
       have HE : Hid (v = true) := Zh (by rw [<- HV.out]; exact decide_eq_true ⟨k0, k1, k2, k3, k4, k5⟩)
       go_wp2
       go_ret
       exact ⟨by rw [HE.out]; rfl, HB.out⟩
      ·have d5 : decide (p.h <= 1048576) = false := decide_eq_false k5
       have HE : Hid (v = false) := Zh (by rw [<- HV.out]; exact decide_eq_false fun h => k5 h.2.2.2.2.2)
       go_wp2
       go_ret
       exact ⟨by rw [HE.out]; rfl, HB.out⟩
     ·have d4 : decide (0 <= p.h) = false := decide_eq_false k4
      have HE : Hid (v = false) := Zh (by rw [<- HV.out]; exact decide_eq_false fun h => k4 h.2.2.2.2.1)
      go_wp2
      go_ret
      exact ⟨by rw [HE.out]; rfl, HB.out⟩
    ·have d3 : decide (p.i <= 1048576) = false := decide_eq_false k3
     have HE : Hid (v = false) := Zh (by rw [<- HV.out]; exact decide_eq_false fun h => k3 h.2.2.2.1)
     go_wp2
     go_ret
     exact ⟨by rw [HE.out]; rfl, HB.out⟩
   ·have d2 : decide (1 <= p.i) = false := decide_eq_false k2
    have HE : Hid (v = false) := Zh (by rw [<- HV.out]; exact decide_eq_false fun h => k2 h.2.2.1)
    go_wp2
    go_ret
    exact ⟨by rw [HE.out]; rfl, HB.out⟩
  ·have d1 : decide (p.q <= 8) = false := decide_eq_false k1
   have HE : Hid (v = false) := Zh (by rw [<- HV.out]; exact decide_eq_false fun h => k1 h.2.1)
   go_wp2
   go_ret
   exact ⟨by rw [HE.out]; rfl, HB.out⟩
 ·have d0 : decide (1 <= p.q) = false := decide_eq_false k0
  have HE : Hid (v = false) := Zh (by rw [<- HV.out]; exact decide_eq_false fun h => k0 h.1)
  go_wp2
  go_ret
  exact ⟨by rw [HE.out]; rfl, HB.out⟩
end Go.Proofs.YtijkbflimbffmaaGreat
namespace Go.Proofs.YtijkbflimbffmaaGreat
set_option maxHeartbeats 400000
open Go.RowKit
theorem zd2 {fn : Func} {p : Tmp} (h : fn.results = #[.cell p 169]) {tmps : Array Value} {V : World} (g : Nat) (a b : Int)
  (hp : tmps.getD p undef = .pointer (some ⟨g, 0, none⟩)) (hg : Blok V g 169 #[.int .i64 a, .int .i64 b]) :
  (results fn tmps).run Tryz.prog V = .ok (.agg #[.int .i64 a, .int .i64 b]) V := by
 have hp' : tmps[p]?.getD undef = .pointer (some ⟨g, 0, none⟩) := by simpa using hp
 have hl := run_loadVar_row (P := Tryz.prog) V g 169 169 #[.int .i64 a, .int .i64 b] (0, 0) _ hg Tryz.underlying169 rfl (by kernel_rfl)
 simp [results, h, hp', asAddr, hl]
theorem zc3 (x : L.Ls) (w : World) :
  Calls Tryz.prog 150 #[L.val x] w fun e w' => e = .returned (.agg #[.int .i64 x.a, .int .i64 x.b]) /\ Below w.heap.size w w' := by
 have HB := Zh ((((Below.refl w.heap.size w).alloc (Nat.le_refl _) (.cells #[.int .i64 x.s, .int .i64 x.a, .int .i64 x.b, .int .i64 x.f, .int .i64 x.t] 60))).alloc (by simp) (.cells #[.int .i64 x.a, .int .i64 x.b] 169))
 have HR : Hid (Blok ((w.alloc (.cells #[.int .i64 x.s, .int .i64 x.a, .int .i64 x.b, .int .i64 x.f, .int .i64 x.t] 60)).alloc (.cells #[.int .i64 x.a, .int .i64 x.b] 169)) (w.heap.size + 1) 169 #[.int .i64 x.a, .int .i64 x.b]) := Zh (by
  have := Blok.new (w.alloc (.cells #[.int .i64 x.s, .int .i64 x.a, .int .i64 x.b, .int .i64 x.f, .int .i64 x.t] 60)) 169 #[.int .i64 x.a, .int .i64 x.b]
  simpa using this)
 unfold L.val
 go_enter Tryz.func150, Tryz.ntmps150
 go_wp2
 refine bodyPost_ret (zd2 rfl (w.heap.size + 1) x.a x.b (by kernel_rfl) HR.out) rfl ?_
 exact ⟨rfl, HB.out⟩
theorem zd3 (a b c d : Int) (v : Bool) (hv : decide (c < a \/ a = c /\ d < b) = v) (w : World) :
  Calls Tryz.prog 149 #[.agg #[.int .i64 a, .int .i64 b], .agg #[.int .i64 c, .int .i64 d]] w fun e w' => e = .returned (.bool v) /\ Below w.heap.size w w' := by
 have HB := Zh ((((Below.refl w.heap.size w).alloc (Nat.le_refl _) (.cells #[.int .i64 a, .int .i64 b] 169))).alloc (by simp) (.cells #[.int .i64 c, .int .i64 d] 169))
 obtain ⟨u, hu⟩ : ∃ u, decide (c < a) = u := ⟨_, rfl⟩
 obtain ⟨y, hy⟩ : ∃ v, (a == c) = v := ⟨_, rfl⟩
 obtain ⟨z, hz⟩ : ∃ z, decide (d < b) = z := ⟨_, rfl⟩
 have HE : Hid (v = (u || (y && z))) := Zh (by
  rw [<- hv, <- hu, <- hy, <- hz, Bool.eq_iff_iff]; simp)
 clear hv
 go_enter Tryz.func149, Tryz.ntmps149
 cases u with
 | true =>
  go_wp2
  go_ret
  exact ⟨by rw [HE.out]; rfl, HB.out⟩
 | false =>
  cases y with
  | false =>
   go_wp2
   go_ret
   exact ⟨by rw [HE.out]; rfl, HB.out⟩
  | true =>
   go_wp2
   go_ret
   exact ⟨by rw [HE.out]; rfl, HB.out⟩
theorem zd4 (x : E.D) (a b : Int) (v : Bool) (hv : E.blkB x a b = v) (w : World) (hb : x.b <= 9223372036854775807) (hc : x.c <= 9223372036854775807) :
  Calls Tryz.prog 152 #[.agg #[.int .i64 x.b, .int .i64 x.k, .int .i64 x.c, .int .i64 x.j, .int .i64 x.lo, .int .i64 x.hi, .int .i64 x.dy, .int .i64 x.bl], .agg #[.int .i64 a, .int .i64 b]] w fun e w' => e = .returned (.bool v) /\ Below w.heap.size w w' := by
 have HB := Zh ((((Below.refl w.heap.size w).alloc (Nat.le_refl _) (.cells #[.int .i64 x.b, .int .i64 x.k, .int .i64 x.c, .int .i64 x.j, .int .i64 x.lo, .int .i64 x.hi, .int .i64 x.dy, .int .i64 x.bl] 25))).alloc (by simp) (.cells #[.int .i64 a, .int .i64 b] 169))
 have c1 := zh6 x a b _ _ _ v ((w.alloc (.cells #[.int .i64 x.b, .int .i64 x.k, .int .i64 x.c, .int .i64 x.j, .int .i64 x.lo, .int .i64 x.hi, .int .i64 x.dy, .int .i64 x.bl] 25)).alloc (.cells #[.int .i64 a, .int .i64 b] 169)) hv rfl rfl rfl hb hc
 clear hv hb hc
 go_enter Tryz.func152, Tryz.ntmps152
 go_wp2_with fail
 refine c1.mono ?_
 rintro e w1 ⟨rfl, hb1⟩
 have HB1 := Zt HB hb1
 clear c1 hb1 HB
 go_wp2
 go_ret
 exact ⟨rfl, HB1.out.alloc HB1.out.size _⟩
theorem za3 (x : E.D) (s : Int) (hs : E.no x = s) (w : World) : Calls Tryz.prog 67 #[.agg #[.int .i64 x.b, .int .i64 x.k, .int .i64 x.c, .int .i64 x.j, .int .i64 x.lo, .int .i64 x.hi, .int .i64 x.dy, .int .i64 x.bl]] w fun e w' => e = .returned (.int .i64 s) /\ Below w.heap.size w w' := by
 have HB := Zh (zaq w x)
 have hsz := zc8 x.c x.j s (ebox w x) hs
 clear hs
 go_enter Tryz.func67, Tryz.ntmps67
 go_wp2_with fail
 refine hsz.mono ?_
 rintro e w1 ⟨rfl, hb1⟩
 go_wp2
 go_ret
 exact ⟨rfl, HB.out.trans (hb1.mono HB.out.size)⟩
end Go.Proofs.YtijkbflimbffmaaGreat
namespace Go.Proofs.YtijkbflimbffmaaGreat
open Go.RowKit
namespace Y
theorem cs16 {w : World} {g : Nat} {t : TypeId} {s : St} {ap : Option Addr} {np cp : Nat} {al : Option Addr} {nl cl : Nat} {ah : Option Addr} {nh ch : Nat} (K : Blok w g t #[.int .i64 s.d.b, .int .i64 s.d.k, .int .i64 s.d.c, .int .i64 s.d.j, .int .i64 s.d.lo, .int .i64 s.d.hi, .int .i64 s.d.dy, .int .i64 s.d.bl, .int .i64 s.p.q, .int .i64 s.p.i, .int .i64 s.p.h, .bool s.p.pair, .int .i64 s.now, .slice ap np cp, .slice al nl cl, .slice ah nh ch]) :
  w.cell? ⟨g, 0, none⟩ = some (.int .i64 s.d.b) /\ w.cell? ⟨g, 1, none⟩ = some (.int .i64 s.d.k) /\ w.cell? ⟨g, 2, none⟩ = some (.int .i64 s.d.c) /\ w.cell? ⟨g, 3, none⟩ = some (.int .i64 s.d.j) /\ w.cell? ⟨g, 4, none⟩ = some (.int .i64 s.d.lo) /\ w.cell? ⟨g, 5, none⟩ = some (.int .i64 s.d.hi) /\ w.cell? ⟨g, 6, none⟩ = some (.int .i64 s.d.dy) /\ w.cell? ⟨g, 7, none⟩ = some (.int .i64 s.d.bl) /\ w.cell? ⟨g, 8, none⟩ = some (.int .i64 s.p.q) /\ w.cell? ⟨g, 9, none⟩ = some (.int .i64 s.p.i) /\ w.cell? ⟨g, 10, none⟩ = some (.int .i64 s.p.h) /\ w.cell? ⟨g, 11, none⟩ = some (.bool s.p.pair) /\ w.cell? ⟨g, 12, none⟩ = some (.int .i64 s.now) /\ w.cell? ⟨g, 13, none⟩ = some (.slice ap np cp) /\ w.cell? ⟨g, 14, none⟩ = some (.slice al nl cl) /\ w.cell? ⟨g, 15, none⟩ = some (.slice ah nh ch) := ⟨K.cell 0, K.cell 1, K.cell 2, K.cell 3, K.cell 4, K.cell 5, K.cell 6, K.cell 7, K.cell 8, K.cell 9, K.cell 10, K.cell 11, K.cell 12, K.cell 13, K.cell 14, K.cell 15⟩
theorem cs16q {w : World} {g : Nat} {t : TypeId} {s : St} {ap : Option Addr} {np cp : Nat} {al : Option Addr} {nl cl : Nat} {ah : Option Addr} {nh ch : Nat} (K : Blok w g t #[.int .i64 s.d.b, .int .i64 s.d.k, .int .i64 s.d.c, .int .i64 s.d.j, .int .i64 s.d.lo, .int .i64 s.d.hi, .int .i64 s.d.dy, .int .i64 s.d.bl, .int .i64 s.p.q, .int .i64 s.p.i, .int .i64 s.p.h, .bool s.p.pair, .int .i64 s.now, .slice ap np cp, .slice al nl cl, .slice ah nh ch]) :
  (∀ d os, (Go.Sort.grow (redrawn w d) os).cell? ⟨g, 0, none⟩ = some (.int .i64 s.d.b)) /\ (∀ d os, (Go.Sort.grow (redrawn w d) os).cell? ⟨g, 1, none⟩ = some (.int .i64 s.d.k)) /\ (∀ d os, (Go.Sort.grow (redrawn w d) os).cell? ⟨g, 2, none⟩ = some (.int .i64 s.d.c)) /\ (∀ d os, (Go.Sort.grow (redrawn w d) os).cell? ⟨g, 3, none⟩ = some (.int .i64 s.d.j)) /\ (∀ d os, (Go.Sort.grow (redrawn w d) os).cell? ⟨g, 4, none⟩ = some (.int .i64 s.d.lo)) /\ (∀ d os, (Go.Sort.grow (redrawn w d) os).cell? ⟨g, 5, none⟩ = some (.int .i64 s.d.hi)) /\ (∀ d os, (Go.Sort.grow (redrawn w d) os).cell? ⟨g, 6, none⟩ = some (.int .i64 s.d.dy)) /\ (∀ d os, (Go.Sort.grow (redrawn w d) os).cell? ⟨g, 7, none⟩ = some (.int .i64 s.d.bl)) /\ (∀ d os, (Go.Sort.grow (redrawn w d) os).cell? ⟨g, 8, none⟩ = some (.int .i64 s.p.q)) /\ (∀ d os, (Go.Sort.grow (redrawn w d) os).cell? ⟨g, 9, none⟩ = some (.int .i64 s.p.i)) /\ (∀ d os, (Go.Sort.grow (redrawn w d) os).cell? ⟨g, 10, none⟩ = some (.int .i64 s.p.h)) /\ (∀ d os, (Go.Sort.grow (redrawn w d) os).cell? ⟨g, 11, none⟩ = some (.bool s.p.pair)) /\ (∀ d os, (Go.Sort.grow (redrawn w d) os).cell? ⟨g, 12, none⟩ = some (.int .i64 s.now)) /\ (∀ d os, (Go.Sort.grow (redrawn w d) os).cell? ⟨g, 13, none⟩ = some (.slice ap np cp)) /\ (∀ d os, (Go.Sort.grow (redrawn w d) os).cell? ⟨g, 14, none⟩ = some (.slice al nl cl)) /\ (∀ d os, (Go.Sort.grow (redrawn w d) os).cell? ⟨g, 15, none⟩ = some (.slice ah nh ch)) := ⟨fun d os => (K.below (below_regrown w d os) K.lt).cell 0, fun d os => (K.below (below_regrown w d os) K.lt).cell 1, fun d os => (K.below (below_regrown w d os) K.lt).cell 2, fun d os => (K.below (below_regrown w d os) K.lt).cell 3, fun d os => (K.below (below_regrown w d os) K.lt).cell 4, fun d os => (K.below (below_regrown w d os) K.lt).cell 5, fun d os => (K.below (below_regrown w d os) K.lt).cell 6, fun d os => (K.below (below_regrown w d os) K.lt).cell 7, fun d os => (K.below (below_regrown w d os) K.lt).cell 8, fun d os => (K.below (below_regrown w d os) K.lt).cell 9, fun d os => (K.below (below_regrown w d os) K.lt).cell 10, fun d os => (K.below (below_regrown w d os) K.lt).cell 11, fun d os => (K.below (below_regrown w d os) K.lt).cell 12, fun d os => (K.below (below_regrown w d os) K.lt).cell 13, fun d os => (K.below (below_regrown w d os) K.lt).cell 14, fun d os => (K.below (below_regrown w d os) K.lt).cell 15⟩
theorem cs5 {w : World} {g : Nat} {t : TypeId} {x : L.Ls} (K : Blok w g t #[.int .i64 x.s, .int .i64 x.a, .int .i64 x.b, .int .i64 x.f, .int .i64 x.t]) :
  w.cell? ⟨g, 0, none⟩ = some (.int .i64 x.s) /\ w.cell? ⟨g, 1, none⟩ = some (.int .i64 x.a) /\ w.cell? ⟨g, 2, none⟩ = some (.int .i64 x.b) /\ w.cell? ⟨g, 3, none⟩ = some (.int .i64 x.f) /\ w.cell? ⟨g, 4, none⟩ = some (.int .i64 x.t) := ⟨K.cell 0, K.cell 1, K.cell 2, K.cell 3, K.cell 4⟩
theorem cs5q {w : World} {g : Nat} {t : TypeId} {x : L.Ls} (K : Blok w g t #[.int .i64 x.s, .int .i64 x.a, .int .i64 x.b, .int .i64 x.f, .int .i64 x.t]) :
  (∀ d os, (Go.Sort.grow (redrawn w d) os).cell? ⟨g, 0, none⟩ = some (.int .i64 x.s)) /\ (∀ d os, (Go.Sort.grow (redrawn w d) os).cell? ⟨g, 1, none⟩ = some (.int .i64 x.a)) /\ (∀ d os, (Go.Sort.grow (redrawn w d) os).cell? ⟨g, 2, none⟩ = some (.int .i64 x.b)) /\ (∀ d os, (Go.Sort.grow (redrawn w d) os).cell? ⟨g, 3, none⟩ = some (.int .i64 x.f)) /\ (∀ d os, (Go.Sort.grow (redrawn w d) os).cell? ⟨g, 4, none⟩ = some (.int .i64 x.t)) := ⟨fun d os => (K.below (below_regrown w d os) K.lt).cell 0, fun d os => (K.below (below_regrown w d os) K.lt).cell 1, fun d os => (K.below (below_regrown w d os) K.lt).cell 2, fun d os => (K.below (below_regrown w d os) K.lt).cell 3, fun d os => (K.below (below_regrown w d os) K.lt).cell 4⟩
theorem cs3 {w : World} {g : Nat} {t : TypeId} {x : L.T3} (K : Blok w g t #[.int .i64 x.a, .int .i64 x.b, .int .i64 x.x]) :
  w.cell? ⟨g, 0, none⟩ = some (.int .i64 x.a) /\ w.cell? ⟨g, 1, none⟩ = some (.int .i64 x.b) /\ w.cell? ⟨g, 2, none⟩ = some (.int .i64 x.x) := ⟨K.cell 0, K.cell 1, K.cell 2⟩
theorem cs3q {w : World} {g : Nat} {t : TypeId} {x : L.T3} (K : Blok w g t #[.int .i64 x.a, .int .i64 x.b, .int .i64 x.x]) :
  (∀ d os, (Go.Sort.grow (redrawn w d) os).cell? ⟨g, 0, none⟩ = some (.int .i64 x.a)) /\ (∀ d os, (Go.Sort.grow (redrawn w d) os).cell? ⟨g, 1, none⟩ = some (.int .i64 x.b)) /\ (∀ d os, (Go.Sort.grow (redrawn w d) os).cell? ⟨g, 2, none⟩ = some (.int .i64 x.x)) := ⟨fun d os => (K.below (below_regrown w d os) K.lt).cell 0, fun d os => (K.below (below_regrown w d os) K.lt).cell 1, fun d os => (K.below (below_regrown w d os) K.lt).cell 2⟩
theorem cb2 {w : World} {g : Nat} {t : TypeId} {a b : Int} (K : Blok w g t #[.int .i64 a, .int .i64 b]) :
  w.cell? ⟨g, 0, none⟩ = some (.int .i64 a) /\ w.cell? ⟨g, 1, none⟩ = some (.int .i64 b) := ⟨K.cell 0, K.cell 1⟩
theorem cb2q {w : World} {g : Nat} {t : TypeId} {a b : Int} (K : Blok w g t #[.int .i64 a, .int .i64 b]) :
  (∀ d os, (Go.Sort.grow (redrawn w d) os).cell? ⟨g, 0, none⟩ = some (.int .i64 a)) /\ (∀ d os, (Go.Sort.grow (redrawn w d) os).cell? ⟨g, 1, none⟩ = some (.int .i64 b)) := ⟨fun d os => (K.below (below_regrown w d os) K.lt).cell 0, fun d os => (K.below (below_regrown w d os) K.lt).cell 1⟩
theorem at5q {w : World} {a : Option Addr} {n c i : Nat} {l : List L.Ls} (h : RIn w a n c l) (hi : i < n) :
  ∃ b off x, a = some ⟨b, off, none⟩ /\ b < w.heap.size /\ l[i]? = some x /\ (w.cell? ⟨b, off + i * 5, none⟩ = some (.int .i64 x.s) /\ w.cell? ⟨b, off + i * 5 + 1, none⟩ = some (.int .i64 x.a) /\ w.cell? ⟨b, off + i * 5 + 2, none⟩ = some (.int .i64 x.b) /\ w.cell? ⟨b, off + i * 5 + 3, none⟩ = some (.int .i64 x.f) /\ w.cell? ⟨b, off + i * 5 + 4, none⟩ = some (.int .i64 x.t)) /\
   (∀ d os, (Go.Sort.grow (redrawn w d) os).cell? ⟨b, off + i * 5, none⟩ = some (.int .i64 x.s)) /\ (∀ d os, (Go.Sort.grow (redrawn w d) os).cell? ⟨b, off + i * 5 + 1, none⟩ = some (.int .i64 x.a)) /\ (∀ d os, (Go.Sort.grow (redrawn w d) os).cell? ⟨b, off + i * 5 + 2, none⟩ = some (.int .i64 x.b)) /\ (∀ d os, (Go.Sort.grow (redrawn w d) os).cell? ⟨b, off + i * 5 + 3, none⟩ = some (.int .i64 x.f)) /\ (∀ d os, (Go.Sort.grow (redrawn w d) os).cell? ⟨b, off + i * 5 + 4, none⟩ = some (.int .i64 x.t)) := by
 obtain ⟨b, off, x, ha, hb, hx, p⟩ := h.at5 hi
 refine ⟨b, off, x, ha, hb, hx, p, ?_⟩
 have k : ∀ d os, _ := fun d os => (h.below (below_regrown w d os)).at5 hi
 refine ⟨fun d os => ?_, fun d os => ?_, fun d os => ?_, fun d os => ?_, fun d os => ?_⟩ <;>
 ·obtain ⟨b', off', x', ha', _, hx', p'⟩ := k d os
  rw [ha] at ha'; cases ha'
  rw [hx] at hx'; cases hx'
  first | exact p'.1 | exact p'.2.1 | exact p'.2.2.1 | exact p'.2.2.2.1 | exact p'.2.2.2.2
theorem at3q {w : World} {a : Option Addr} {n c i : Nat} {l : List L.T3} (h : RIn w a n c l) (hi : i < n) :
  ∃ b off x, a = some ⟨b, off, none⟩ /\ b < w.heap.size /\ l[i]? = some x /\ (w.cell? ⟨b, off + i * 3, none⟩ = some (.int .i64 x.a) /\ w.cell? ⟨b, off + i * 3 + 1, none⟩ = some (.int .i64 x.b) /\ w.cell? ⟨b, off + i * 3 + 2, none⟩ = some (.int .i64 x.x)) /\
   (∀ d os, (Go.Sort.grow (redrawn w d) os).cell? ⟨b, off + i * 3, none⟩ = some (.int .i64 x.a)) /\ (∀ d os, (Go.Sort.grow (redrawn w d) os).cell? ⟨b, off + i * 3 + 1, none⟩ = some (.int .i64 x.b)) /\ (∀ d os, (Go.Sort.grow (redrawn w d) os).cell? ⟨b, off + i * 3 + 2, none⟩ = some (.int .i64 x.x)) := by
 obtain ⟨b, off, x, ha, hb, hx, p⟩ := h.at3 hi
 refine ⟨b, off, x, ha, hb, hx, p, ?_⟩
 have k : ∀ d os, _ := fun d os => (h.below (below_regrown w d os)).at3 hi
 refine ⟨fun d os => ?_, fun d os => ?_, fun d os => ?_⟩ <;>
 ·obtain ⟨b', off', x', ha', _, hx', p'⟩ := k d os
  rw [ha] at ha'; cases ha'
  rw [hx] at hx'; cases hx'
  first | exact p'.1 | exact p'.2.1 | exact p'.2.2
end Y
end Go.Proofs.YtijkbflimbffmaaGreat
namespace Go.Proofs.YtijkbflimbffmaaGreat
open Go.RowKit
namespace Y
def OffL {α : Type} (g : Nat) (a : Option Addr) (l : List α) : Prop := l = [] \/ Off g a
theorem row_off {α : Type} [L.Rec α] {w w' : World} {a : Option Addr} {n c : Nat} {l : List α} {row : Option Nat} (h : RIn w a n c l) (hg : w.grownBy w' row) (ho : ∀ g, row = some g -> OffL g a l) : RIn w' a n c l := by
 cases row with
 | none => exact h.on hg
 | some g =>
  rcases ho g rfl with h0 | ho
  ·exact ⟨h.1, h.2.1, h.2.2.1, .inl h0⟩
  ·exact off_row h ho hg
theorem pool_off {w w' : World} {a : Option Addr} {n c : Nat} {l : List O.Pl} {row : Option Nat} (h : QIn w a n c l) (hg : w.grownBy w' row) (ho : ∀ g, row = some g -> OffL g a l) : QIn w' a n c l := by
 cases row with
 | none => exact h.on hg
 | some g =>
  rcases ho g rfl with h0 | ho
  ·exact ⟨h.1, h.2.1, h.2.2.1, .inl h0⟩
  ·exact off_pool h ho hg
theorem row_fresh {α : Type} [L.Rec α] {w : World} {a : Option Addr} {n c : Nat} {l : List α} {g : Nat} (h : RIn w a n c l) (hg : w.heap.size <= g) : OffL g a l := by
 rcases h.2.2.2 with h0 | ⟨b, off, rfl, hlt, _⟩
 ·exact .inl h0
 ·exact .inr fun x hx e => by cases hx; simp at e; omega
theorem pool_fresh {w : World} {a : Option Addr} {n c : Nat} {l : List O.Pl} {g : Nat} (h : QIn w a n c l) (hg : w.heap.size <= g) : OffL g a l := by
 rcases h.2.2.2 with h0 | ⟨b, off, rfl, hlt, _⟩
 ·exact .inl h0
 ·exact .inr fun x hx e => by cases hx; simp at e; omega
structure WIn (w : World) (H b : Nat) (s : St) (A : A9) (evs : List Ev) (ve : Value) (x y : Int) : Prop where
 k : Blok w b 176 (ws s A ve 0 x y).toArray
 i : SIn w A s
 op : Off b A.ap
 oh : Off b A.ah
 ev : w.ownsRow H 34 9 ve evs.length (V.flat evs)
 bh : b < H
 hh : H <= w.heap.size
 oe : ∀ g, ve.ownBlock = some g -> OffL g A.ap s.ps /\ OffL g A.al s.l /\ OffL g A.ah s.h
end Y
end Go.Proofs.YtijkbflimbffmaaGreat
namespace Go.Proofs.YtijkbflimbffmaaGreat
open Go.RowKit
end Go.Proofs.YtijkbflimbffmaaGreat
namespace Go.Proofs.YtijkbflimbffmaaGreat
open Go.RowKit
namespace Y
theorem ls_at {w : World} {g off n c i : Nat} {l : List L.Ls} {z : L.Ls} (h : RIn w (some ⟨g, off, none⟩) n c l) (hz : l[i]? = some z) :
  w.cell? ⟨g, off + i * 5, none⟩ = some (.int .i64 z.s) /\ w.cell? ⟨g, off + i * 5 + 1, none⟩ = some (.int .i64 z.a) /\ w.cell? ⟨g, off + i * 5 + 2, none⟩ = some (.int .i64 z.b) /\ w.cell? ⟨g, off + i * 5 + 3, none⟩ = some (.int .i64 z.f) /\ w.cell? ⟨g, off + i * 5 + 4, none⟩ = some (.int .i64 z.t) := by
 rcases h.2.2.2 with rfl | ⟨b, o, he, _, hc⟩
 ·simp at hz
 ·cases he
  exact ⟨hc i z hz 0 _ rfl, hc i z hz 1 _ rfl, hc i z hz 2 _ rfl, hc i z hz 3 _ rfl, hc i z hz 4 _ rfl⟩
end Y
end Go.Proofs.YtijkbflimbffmaaGreat
namespace Go.Proofs.YtijkbflimbffmaaGreat
open Go.RowKit
theorem za4 {V : World} {B n g b k : Nat} {v : Value} {l : List Value} {t t' : TypeId} {cs : Array Value} (h : V.ownsRow B t k v n l) (hb : Blok V b t' cs) (ht : t' ≠ t) (hg : v.ownBlock = some g) : g ≠ b := by
 rintro rfl
 rcases h.2 with ⟨rfl, _⟩ | ⟨q, cap, cur, rfl, _, hq, _⟩
 ·cases hg
 ·obtain rfl : q = g := Option.some.inj hg
  unfold Blok at hb
  rw [hq] at hb
  simp at hb
  exact ht hb.2.symm
namespace Y
def Up (H : Nat) (A : A9) : Prop := (∀ q, A.ap = some q -> H <= q.block) /\ (∀ q, A.al = some q -> H <= q.block) /\ ∀ q, A.ah = some q -> H <= q.block
theorem Up.mono {H H' : Nat} {A : A9} (h : Up H A) (hh : H' <= H) : Up H' A := ⟨fun q hq => Nat.le_trans hh (h.1 q hq), fun q hq => Nat.le_trans hh (h.2.1 q hq), fun q hq => Nat.le_trans hh (h.2.2 q hq)⟩
theorem flat_set4 (t : Int) : ∀ (l : List L.Ls) (i : Nat) (z : L.Ls), l[i]? = some z -> (L.flat l).set (i * 5 + 4) (.int .i64 t) = L.flat (l.set i { z with t := t })
 | [], _, _, h => by simp at h
 | y :: l, 0, z, h => by
  obtain rfl : y = z := by simpa using h
  rfl
 | y :: l, i + 1, z, h => by
  have ih := flat_set4 t l i z (by simpa using h)
  rw [List.set_cons_succ, L.flat_cons, L.flat_cons, <- ih, List.set_append_right _ _ (by rw [L.cells_len5]; omega), L.cells_len5]
  congr 2
  omega
end Y
end Go.Proofs.YtijkbflimbffmaaGreat
