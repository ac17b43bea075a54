import Derived.Lib.BitFns
import Derived.Test.YtijkbflimbffmaaGreatP4
import Derived.Test.YtijkbflimbffmaaGreatP0
namespace Go.Proofs.YtijkbflimbffmaaGreat
namespace O
theorem drop1 {l : List Pl} {q : Pl} {m : Nat} (h : q ∈ l.eraseIdx m) : ∃ i, i ≠ m /\ l[i]? = some q := by
 obtain ⟨i, hi, hne, rfl⟩ := List.mem_eraseIdx_iff_getElem.1 h
 exact ⟨i, hne, List.getElem?_eq_getElem hi⟩
theorem hit_s (p q : Pl) (s : Int) : hit { p with s := s } q = hit p q := rfl
theorem apart_at {l : List Pl} {i j : Nat} {p q : Pl} (h : Apart l) (hi : l[i]? = some p) (hj : l[j]? = some q) (hne : i ≠ j) : hit p q = false := by
 obtain ⟨a, rfl⟩ := List.getElem?_eq_some_iff.1 hi
 obtain ⟨b, rfl⟩ := List.getElem?_eq_some_iff.1 hj
 rcases Nat.lt_or_gt_of_ne hne with hlt | hlt
 ·rw [hit_comm]; exact List.pairwise_iff_getElem.1 h i j a b hlt
 ·exact List.pairwise_iff_getElem.1 h j i b a hlt
theorem may_fits {l : List Pl} {out : Int} {i : Nat} {p : Pl} (h : May l out) (hi : l[i]? = some p) : fits p out = true := h.2.2.2.1 p (List.mem_of_getElem? hi)
theorem may_set {l : List Pl} {out : Int} {m : Nat} {y : Pl} (h : May l out) (hy : fits y out = true) (hh : ∀ q ∈ l.eraseIdx m, hit y q = false) : May (l.set m y) out := by
 refine ⟨h.1, h.2.1, by rw [List.length_set]; exact h.2.2.1, fun p hp => ?_, ?_⟩
 ·rcases List.mem_or_eq_of_mem_set hp with hp | rfl
  ·exact h.2.2.2.1 p hp
  ·exact hy
 ·refine List.pairwise_iff_getElem.2 fun i j hi hj hij => ?_
  rw [List.length_set] at hi hj
  have him : i ≠ m -> l[i] ∈ l.eraseIdx m := fun e => List.mem_eraseIdx_iff_getElem.2 ⟨i, hi, e, rfl⟩
  have hjm : j ≠ m -> l[j] ∈ l.eraseIdx m := fun e => List.mem_eraseIdx_iff_getElem.2 ⟨j, hj, e, rfl⟩
  rw [List.getElem_set, List.getElem_set]
  by_cases h1 : m = i
  ·subst h1
   rw [if_pos rfl, if_neg (by omega), hit_comm]; exact hh _ (hjm (by omega))
  ·rw [if_neg h1]
   by_cases h2 : m = j
   ·subst h2; rw [if_pos rfl]; exact hh _ (him (by omega))
   ·rw [if_neg h2]; exact List.pairwise_iff_getElem.1 h.2.2.2.2 i j hi hj hij
theorem may_erase {l : List Pl} {out : Int} (h : May l out) (m : Nat) : May (l.eraseIdx m) out :=
 ⟨h.1, h.2.1, Nat.le_trans (List.length_eraseIdx_le _ _) h.2.2.1, fun p hp => h.2.2.2.1 p (List.mem_of_mem_eraseIdx hp), h.2.2.2.2.sublist (List.eraseIdx_sublist _ _)⟩
theorem may_snoc {l : List Pl} {out : Int} {p : Pl} (h : May l out) (hp : fits p out = true) (hh : l.any (fun q => hit p q) = false) (h3 : l.length ≠ 3) : May (l ++ [p]) out := by
 refine ⟨h.1, h.2.1, by rw [List.length_append]; have := h.2.2.1; simp; omega, fun q hq => ?_, ?_⟩
 ·rcases List.mem_append.1 hq with hq | hq
  ·exact h.2.2.2.1 q hq
  ·rw [List.mem_singleton.1 hq]; exact hp
 ·refine List.pairwise_append.2 ⟨h.2.2.2.2, List.pairwise_singleton _ _, fun q hq r hr => ?_⟩
  rw [List.mem_singleton.1 hr]
  have := List.any_eq_false.1 hh q hq
  simpa using this
theorem add_cases (l : List Pl) (out f n : Int) : (∃ e, add l out f n = (l, e) /\ e ≠ 0 /\ (may l out = false -> e = 1)) \/ (add l out f n = (l ++ [⟨f, n, 0⟩], 0) /\ May l out /\ below ⟨f, n, 0⟩ out = true /\ May (l ++ [⟨f, n, 0⟩]) out) := by
 unfold add
 by_cases h1 : may l out = false \/ below ⟨f, n, 0⟩ out = false
 ·rw [if_pos h1]; exact .inl ⟨1, rfl, by decide, fun _ => rfl⟩
 ·rw [if_neg h1]
  have hm : May l out := may_iff.1 (by cases h : may l out <;> simp [h] at h1 ⊢)
  have hb : below ⟨f, n, 0⟩ out = true := by cases h : below ⟨f, n, 0⟩ out <;> simp [h] at h1 ⊢
  have hn : ∀ e : Int, may l out = false -> e = 1 := fun e h => absurd (Or.inl h) h1
  by_cases h2 : (l.any fun q => hit ⟨f, n, 0⟩ q) = true
  ·rw [if_pos h2]; exact .inl ⟨11, rfl, by decide, hn _⟩
  ·rw [if_neg h2]
   by_cases h3 : l.length = 3
   ·rw [if_pos h3]; exact .inl ⟨9, rfl, by decide, hn _⟩
   ·rw [if_neg h3]
    exact .inr ⟨rfl, hm, hb, may_snoc hm (by rw [fits_zero]; exact hb) (by simpa using h2) h3⟩
theorem drain_cases (l : List Pl) (out k : Int) : (∃ e, drain l out k = (l, e) /\ e ≠ 0) \/ (∃ (m : Nat) (x : Pl), k = m /\ m < l.length /\ l[m]? = some x /\ x.s = 0 /\ drain l out k = (l.set m { x with s := 1 }, 0) /\ May l out /\ May (l.set m { x with s := 1 }) out) := by
 by_cases hs : seek l out k = 0
 ·obtain ⟨h1, h2, h3⟩ := seek_ok.1 hs
  have hm := may_iff.1 h1
  obtain ⟨m, rfl⟩ : ∃ m : Nat, k = m := ⟨k.toNat, by omega⟩
  have hml : m < l.length := by omega
  have hx := List.getElem?_eq_getElem hml
  rw [drain_yes hs, at_some hx]
  have hsm := may_small hm (List.mem_of_getElem? hx)
  by_cases h4 : l[m].s = 1
  ·rw [if_pos h4]; exact .inl ⟨11, rfl, by decide⟩
  ·rw [if_neg h4]
   refine .inr ⟨m, l[m], rfl, hml, hx, by omega, by rw [Int.toNat_natCast], hm, may_set hm ?_ fun q hq => ?_⟩
   ·have := fits_iff.1 (may_fits hm hx)
    exact fits_iff.2 ⟨this.1, this.2.1, this.2.2.1, by show (0 : Int) <= 1; omega, by show (1 : Int) < 2; omega⟩
   ·obtain ⟨i, hi, hq⟩ := drop1 hq
    rw [hit_s]; exact apart_at hm.2.2.2.2 hx hq (Ne.symm hi)
 ·exact .inl ⟨_, drain_no hs, hs⟩
theorem size_cases (l : List Pl) (out k n : Int) (busy : List Int) : (∃ e, size l out k n busy = (l, e) /\ e ≠ 0) \/ (∃ (m : Nat) (x : Pl), k = m /\ m < l.length /\ l[m]? = some x /\ size l out k n busy = (l.set m { x with n := n }, 0) /\ (∀ y ∈ busy, has x y = true -> has { x with n := n } y = true) /\ May l out /\ May (l.set m { x with n := n }) out) := by
 by_cases hs : seek l out k = 0
 ·obtain ⟨h1, h2, h3⟩ := seek_ok.1 hs
  have hm := may_iff.1 h1
  obtain ⟨m, rfl⟩ : ∃ m : Nat, k = m := ⟨k.toNat, by omega⟩
  have hml : m < l.length := by omega
  have hx := List.getElem?_eq_getElem hml
  rw [size_yes hs, at_some hx, Int.toNat_natCast]
  by_cases h4 : below { l[m] with n := n } out = false
  ·rw [if_pos h4]; exact .inl ⟨1, rfl, by decide⟩
  ·rw [if_neg h4]
   by_cases h5 : ((l.eraseIdx m).any fun q => hit { l[m] with n := n } q) = true
   ·rw [if_pos h5]; exact .inl ⟨11, rfl, by decide⟩
   ·rw [if_neg h5]
    by_cases h6 : loses l[m] { l[m] with n := n } busy = true
    ·rw [if_pos h6]; exact .inl ⟨12, rfl, by decide⟩
    ·rw [if_neg h6]
     refine .inr ⟨m, l[m], rfl, hml, hx, rfl, fun y hy hyx => ?_, hm, may_set hm ?_ fun q hq => ?_⟩
     ·have h7 : loses l[m] { l[m] with n := n } busy = false := by simpa using h6
      have := List.any_eq_false.1 h7 y hy
      rw [hyx] at this
      simpa using this
     ·rw [fits_n (may_small hm (List.mem_of_getElem? hx))]; simpa using h4
     ·have := List.any_eq_false.1 (by simpa using h5 : ((l.eraseIdx m).any fun q => hit { l[m] with n := n } q) = false) q hq
      simpa using this
 ·exact .inl ⟨_, size_no hs, hs⟩
theorem gone_cases (l : List Pl) (out k : Int) (busy : List Int) : (∃ e, gone l out k busy = (l, e) /\ e ≠ 0 /\ (may l out = false -> e = 1)) \/ (∃ (m : Nat) (x : Pl), k = m /\ m < l.length /\ l[m]? = some x /\ x.s = 1 /\ gone l out k busy = (l.eraseIdx m, 0) /\ (∀ y ∈ busy, has x y = false) /\ May l out /\ May (l.eraseIdx m) out) := by
 by_cases hs : seek l out k = 0
 ·obtain ⟨h1, h2, h3⟩ := seek_ok.1 hs
  have hm := may_iff.1 h1
  obtain ⟨m, rfl⟩ : ∃ m : Nat, k = m := ⟨k.toNat, by omega⟩
  have hml : m < l.length := by omega
  have hx := List.getElem?_eq_getElem hml
  rw [gone_yes hs, at_some hx, Int.toNat_natCast]
  have hsm := may_small hm (List.mem_of_getElem? hx)
  by_cases h4 : l[m].s = 0 \/ loses l[m] zp busy = true
  ·rw [if_pos h4]; exact .inl ⟨12, rfl, by decide, fun h => by rw [h1] at h; cases h⟩
  ·rw [if_neg h4]
   refine .inr ⟨m, l[m], rfl, hml, hx, by omega, rfl, fun y hy => ?_, hm, may_erase hm m⟩
   have h5 : loses l[m] zp busy = false := by
    have := fun h => h4 (.inr h); simpa using this
   rw [loses_zp] at h5
   have := List.any_eq_false.1 h5 y hy
   simpa using this
 ·refine .inl ⟨_, gone_no hs, hs, fun h => ?_⟩
  unfold seek; rw [if_pos h]
end O
end Go.Proofs.YtijkbflimbffmaaGreat
namespace Go.Proofs.YtijkbflimbffmaaGreat
namespace Y
structure St where
 d : E.D
 p : Po
 now : Int
 ps : List O.Pl
 l : List L.Ls
 h : List L.T3
structure Rq where
 k : Int
 s : Int
 a : Int
 b : Int
 n : Int
 p : Po
def LtH (x y : L.T3) : Prop := x.a < y.a \/ x.a = y.a /\ x.b < y.b
instance (x y : L.T3) : Decidable (LtH x y) := by unfold LtH; exact inferInstance
def SrtH (h : List L.T3) : Prop := h.Pairwise LtH
instance (h : List L.T3) : Decidable (SrtH h) := by unfold SrtH; exact inferInstance
def cnt (l : List L.Ls) (s : Int) : Nat := (l.filter fun x => x.s == s).length
def okL (s : St) (x : L.Ls) : Prop :=
 E.baseB s.d x.s = true /\ E.blkB s.d x.a x.b = true /\ 0 <= O.of s.ps x.a /\ (s.p.pair = true -> E.baseA s.d x.s = x.a) /\ 0 <= x.f /\ x.f <= x.t /\ x.t <= s.now /\ s.now < x.t + s.p.i /\ (cnt s.l x.s : Int) <= s.p.q
instance (s : St) (x : L.Ls) : Decidable (okL s x) := by unfold okL; exact inferInstance
def okH (s : St) (y : L.T3) : Prop := E.blkB s.d y.a y.b = true /\ s.now < y.x /\ y.x <= s.now + 1048576 /\ ∀ x ∈ s.l, ¬ (x.a = y.a /\ x.b = y.b)
instance (s : St) (y : L.T3) : Decidable (okH s y) := by unfold okH; exact inferInstance
def May (s : St) : Prop := E.fit s.d = true /\ MayP s.p /\ O.May s.ps (E.no s.d) /\ (0 <= s.now /\ s.now <= 1073741824) /\ s.l.length <= 32 /\ L.Srt s.l /\ (∀ x ∈ s.l, okL s x) /\ SrtH s.h /\ ∀ y ∈ s.h, okH s y
instance (s : St) : Decidable (May s) := by unfold May; exact inferInstance
def blks (s : St) : Int := U.newN (E.nb s.d)
def map (s : St) (x : Int) : Int := L.uses (blks s) x (L.uses (blks s) x 0 (s.l.map L.had)) s.h
def block (s : St) (x : Int) : Int := if O.gives s.ps x then U.first (blks s) (map s x) else -1
def least (s : St) : Int := if 0 <= block s 0 then 0 else if 0 <= block s 1 then 1 else if 0 <= block s 2 then 2 else if 0 <= block s 3 then 3 else 4
abbrev An := St × List Ev × Int × Int × Int
def err (s : St) (e : Int) : An := (s, [], e, 0, 0)
def give (s : St) (sub x : Int) : An :=
 if block s x < 0 then err s 7
 else ({ s with l := (L.put s.l ⟨sub, x, block s x, s.now, s.now⟩).1 }, [⟨0, s.now, sub, x, block s x, zp⟩], 0, x, block s x)
def grant (s : St) (sub : Int) : An :=
 if E.baseB s.d sub = false then err s 5
 else if s.p.q <= cnt s.l sub then err s 6
 else if s.p.pair = true then
  if O.of s.ps (E.baseA s.d sub) < 0 then err s 7
  else if O.gives s.ps (E.baseA s.d sub) = false then err s 8
  else give s sub (E.baseA s.d sub)
 else give s sub (least s)
def free1 (s : St) (x : L.Ls) (t : Int) : St := { s with l := (L.del s.l x.a x.b).1, h := if 0 < s.p.h then L.hold s.h ⟨x.a, x.b, t + s.p.h⟩ else s.h }
def evF (x : L.Ls) (t : Int) : Ev := ⟨1, t, x.s, x.a, x.b, zp⟩
def get (s : St) (a b : Int) : Option L.Ls := s.l.find? fun x => x.a == a && x.b == b
def refresh (s : St) (sub a b : Int) : An := match get s a b with
 | some x => if x.s = sub then ({ s with l := s.l.map fun y => if y.a = a /\ y.b = b then { y with t := s.now } else y }, [], 0, a, b) else err s 5
 | none => err s 5
def release (s : St) (sub a b : Int) : An := match get s a b with
 | some x => if x.s = sub then (free1 s x s.now, [evF x s.now], 0, a, b) else err s 5
 | none => err s 5
def due (i n : Int) : List L.Ls -> Option L.Ls
 | [] => none
 | x :: l => match due i n l with
  | none => if x.t + i <= n then some x else none
  | some y => if x.t + i <= n /\ x.t <= y.t then some x else some y
def run (n : Int) : Nat -> St -> St × List Ev
 | 0, s => (s, [])
 | f + 1, s => match due s.p.i n s.l with
  | none => (s, [])
  | some x => ((run n f (free1 s x (x.t + s.p.i))).1, evF x (x.t + s.p.i) :: (run n f (free1 s x (x.t + s.p.i))).2)
def tick (s : St) (n : Int) : An :=
 if n < s.now \/ 1073741824 < n then err s 10
 else ({ (run n s.l.length s).1 with now := n, h := L.clean (run n s.l.length s).1.h n }, (run n s.l.length s).2, 0, (run n s.l.length s).2.length, 0)
def ofPools (s : St) (r : List O.Pl × Int) (e : Ev) : An := if r.2 = 0 then ({ s with ps := r.1 }, [e], 0, 0, 0) else err s r.2
def policy (s : St) (p : Po) : An :=
 if ¬ MayP p then err s 1 else if ¬ May { s with p := p } then err s 12 else ({ s with p := p }, [⟨6, s.now, 0, 0, 0, p⟩], 0, 0, 0)
def step (s : St) (r : Rq) : An :=
 if ¬ May s \/ r.k < 0 \/ 9 <= r.k then err s 1
 else if r.k = 0 then grant s r.s
 else if r.k = 1 then refresh s r.s r.a r.b
 else if r.k = 2 then release s r.s r.a r.b
 else if r.k = 3 then tick s r.n
 else if r.k = 4 then ofPools s (O.add s.ps (E.no s.d) r.a r.n) ⟨2, s.now, r.a, r.n, 0, zp⟩
 else if r.k = 5 then ofPools s (O.drain s.ps (E.no s.d) r.n) ⟨3, s.now, r.n, 0, 0, zp⟩
 else if r.k = 6 then ofPools s (O.size s.ps (E.no s.d) r.a r.n (L.busy s.l)) ⟨4, s.now, r.a, r.n, 0, zp⟩
 else if r.k = 7 then ofPools s (O.gone s.ps (E.no s.d) r.n (L.busy s.l)) ⟨5, s.now, r.n, 0, 0, zp⟩
 else policy s r.p
theorem ls_ext {x y : L.Ls} (h1 : x.s = y.s) (h2 : x.a = y.a) (h3 : x.b = y.b) (h4 : x.f = y.f) (h5 : x.t = y.t) : x = y := by
 cases x; cases y; simp_all
theorem blk_one {l : List L.Ls} (h : L.Srt l) {x y : L.Ls} (hx : x ∈ l) (hy : y ∈ l) (ha : x.a = y.a) (hb : x.b = y.b) : x = y := by
 obtain ⟨i, hi, rfl⟩ := List.mem_iff_getElem.1 hx
 obtain ⟨j, hj, rfl⟩ := List.mem_iff_getElem.1 hy
 by_cases hij : i < j
 ·have := List.pairwise_iff_getElem.1 h i j hi hj hij; unfold L.Lt at this; omega
 ·by_cases hji : j < i
  ·have := List.pairwise_iff_getElem.1 h j i hj hi hji; unfold L.Lt at this; omega
  ·have : i = j := by omega
   subst this; rfl
theorem clean_mem {h : List L.T3} {n : Int} {y : L.T3} : y ∈ L.clean h n ↔ y ∈ h /\ n < y.x := by
 unfold L.clean; rw [List.mem_filter]; simp
theorem clean_srt {h : List L.T3} (hs : SrtH h) (n : Int) : SrtH (L.clean h n) := List.Pairwise.filter _ hs
end Y
namespace Y
end Y
namespace Y
theorem cnt_map {f : L.Ls -> L.Ls} (hf : ∀ x, (f x).s = x.s) (l : List L.Ls) (s : Int) : cnt (l.map f) s = cnt l s := by
 unfold cnt
 rw [List.filter_map, List.length_map]
 congr 1
 apply List.filter_congr
 intro x _
 simp [hf]
theorem inc_len : ∀ {l : List Int} {a b : Int}, l.Pairwise (· < ·) -> (∀ x ∈ l, a <= x /\ x < b) -> a <= b -> (l.length : Int) <= b - a
 | [], a, b, _, _, h => by simp; omega
 | x :: l, a, b, hs, hb, h => by
  obtain ⟨h1, h2⟩ := List.pairwise_cons.1 hs
  have hx := hb x (by simp)
  have := inc_len (a := x + 1) (b := b) h2 (fun y hy => by have := h1 y hy; have := hb y (by simp [hy]); omega) (by omega)
  rw [List.length_cons]; omega
theorem inc_miss {l : List Int} {a b k : Int} (hs : l.Pairwise (· < ·)) (hb : ∀ x ∈ l, a <= x /\ x < b) (h0 : a <= k) (h1 : k < b) (hk : k ∉ l) : (l.length : Int) < b - a := by
 have e1 := inc_len (l := l.filter fun x => decide (x < k)) (a := a) (b := k) (hs.filter _) (fun x hx => by
  obtain ⟨h2, h3⟩ := List.mem_filter.1 hx
  have := hb x h2; simp at h3; omega) h0
 have e2 := inc_len (l := l.filter fun x => !decide (x < k)) (a := k + 1) (b := b) (hs.filter _) (fun x hx => by
  obtain ⟨h2, h3⟩ := List.mem_filter.1 hx
  have := hb x h2
  have h4 : x ≠ k := fun e => hk (e ▸ h2)
  simp at h3; omega) (by omega)
 have e3 : l.length = (l.filter fun x => decide (x < k)).length + (l.filter fun x => !decide (x < k)).length := by
  rw [<- List.countP_eq_length_filter, <- List.countP_eq_length_filter, List.length_eq_countP_add_countP (fun x => decide (x < k))]
  congr 1
  apply List.countP_congr
  intro x _; simp
 omega
theorem nb_in {s : St} (h : E.fit s.d = true) : 0 <= E.nb s.d /\ E.nb s.d <= 8 := by
 have := (E.fits_iff.1 h).nb'
 exact ⟨this.1, this.2.1⟩
theorem blkB_in {d : E.D} {a b : Int} (h : E.blkB d a b = true) : (0 <= a /\ a < E.no d) /\ (0 <= b /\ b < E.nb d) := (E.blkB_iff.1 h).2
theorem room {s : St} (hm : May s) {a b : Int} (h : E.blkB s.d a b = true) (hf : L.find s.l a b = -1) : s.l.length < 32 := by
 obtain ⟨hfit, _, _, _, _, hs, hl, _, _⟩ := hm
 have hno := (E.fits_iff.1 hfit).no
 have hnb := nb_in hfit
 have hk : ∀ {u v : Int}, E.blkB s.d u v = true -> 0 <= u /\ u < 4 /\ 0 <= v /\ v < 8 := fun h => by have := blkB_in h; omega
 have h1 := hk h
 have := inc_miss (l := s.l.map fun x => x.a * 8 + x.b) (a := 0) (b := 32) (k := a * 8 + b)
  (by
   rw [List.pairwise_map]
   refine List.Pairwise.imp_of_mem (R := L.Lt) (fun {x y} hx hy h => ?_) hs
   have e1 := hk (hl x hx).2.1
   have e2 := hk (hl y hy).2.1
   unfold L.Lt at h; omega)
  (fun z hz => by
   obtain ⟨x, hx, rfl⟩ := List.mem_map.1 hz
   have := hk (hl x hx).2.1; omega)
  (by omega) (by omega)
  (fun hz => by
   obtain ⟨x, hx, e⟩ := List.mem_map.1 hz
   have h3 := hk (hl x hx).2.1
   exact L.find_none.1 hf x hx ⟨by omega, by omega⟩)
 rw [List.length_map] at this
 omega
end Y
namespace Y
theorem get_some {s : St} {a b : Int} {x : L.Ls} (h : get s a b = some x) : x ∈ s.l /\ x.a = a /\ x.b = b := by
 unfold get at h
 have h2 := List.find?_some h
 simp at h2
 exact ⟨List.mem_of_find?_eq_some h, h2⟩
theorem get_none {s : St} {a b : Int} : get s a b = none ↔ ∀ x ∈ s.l, ¬ (x.a = a /\ x.b = b) := by
 unfold get; rw [List.find?_eq_none]; simp
theorem get_of {s : St} {a b : Int} {x : L.Ls} (hs : L.Srt s.l) (hx : x ∈ s.l) (ha : x.a = a) (hb : x.b = b) : get s a b = some x := by
 cases h : get s a b with
 | none => exact absurd ⟨ha, hb⟩ (get_none.1 h x hx)
 | some y =>
  obtain ⟨h1, h2, h3⟩ := get_some h
  rw [blk_one hs h1 hx (by omega) (by omega)]
theorem of_len (l : List L.Ls) (sub : Int) : (L.of l sub).length = cnt l sub := by
 unfold L.of cnt
 rw [List.length_map]
 have := congrArg List.length (L.pl_map (fun x : L.T3 => (x.x == sub)) (l.map L.had))
 rw [List.length_map] at this
 rw [this, List.filter_map, List.length_map]
 rfl
end Y
namespace Y
theorem st_ext {s t : St} (h1 : s.d = t.d) (h2 : s.p = t.p) (h3 : s.now = t.now) (h4 : s.ps = t.ps) (h5 : s.l = t.l) (h6 : s.h = t.h) : s = t := by
 cases s; cases t; simp_all
end Y
namespace Y
theorem hold_len (h : List L.T3) (x : L.T3) : (L.hold h x).length <= h.length + 1 := by
 have h1 : (L.others h x.a x.b).length <= h.length := List.length_filter_le _ _
 unfold L.hold
 rw [List.length_append, List.length_cons, List.length_take, List.length_drop]
 omega
theorem SrtH.snoc {l : List L.T3} {j : Nat} {x y : L.T3} (h : SrtH (l.take (j + 1))) (hx : l[j]? = some x) (hy : l[j + 1]? = some y) (hl : LtH x y) : SrtH (l.take (j + 1 + 1)) := by
 obtain ⟨l1, e1⟩ := List.getElem?_eq_some_iff.1 hy
 obtain ⟨l0, e0⟩ := List.getElem?_eq_some_iff.1 hx
 unfold SrtH at *
 rw [List.take_succ_eq_append_getElem l1, List.pairwise_append]
 refine ⟨h, by simp, fun z hz u hu => ?_⟩
 obtain rfl : u = y := by rw [<- e1]; simpa using hu
 rw [List.take_succ_eq_append_getElem l0, List.pairwise_append] at h
 rw [List.take_succ_eq_append_getElem l0] at hz
 rcases List.mem_append.1 hz with hz | hz
 ·have := h.2.2 z hz x (by rw [<- e0]; simp)
  unfold LtH at *; omega
 ·have : z = x := by rw [<- e0]; simpa using hz
  rw [this]; exact hl
theorem SrtH.one (l : List L.T3) : SrtH (l.take 1) := by
 unfold SrtH; cases l <;> simp
theorem SrtH.no {l : List L.T3} {j : Nat} {x y : L.T3} (hx : l[j]? = some x) (hy : l[j + 1]? = some y) (hl : ¬ LtH x y) : ¬ SrtH l := by
 intro h
 obtain ⟨l1, e1⟩ := List.getElem?_eq_some_iff.1 hy
 obtain ⟨l0, e0⟩ := List.getElem?_eq_some_iff.1 hx
 have := List.pairwise_iff_getElem.1 h j (j + 1) l0 l1 (by omega)
 rw [e0, e1] at this
 exact hl this
theorem held_len {s : St} (hm : May s) : s.h.length <= 32 := by
 obtain ⟨hfit, _, _, _, _, _, _, hs, hl⟩ := hm
 have hno := (E.fits_iff.1 hfit).no
 have hnb := nb_in hfit
 have hk : ∀ {u v : Int}, E.blkB s.d u v = true -> 0 <= u /\ u < 4 /\ 0 <= v /\ v < 8 := fun h => by have := blkB_in h; omega
 have := inc_len (l := s.h.map fun x => x.a * 8 + x.b) (a := 0) (b := 32)
  (by
   rw [List.pairwise_map]
   refine List.Pairwise.imp_of_mem (R := LtH) (fun {x y} hx hy h => ?_) hs
   have e1 := hk (hl x hx).1
   have e2 := hk (hl y hy).1
   unfold LtH at h; omega)
  (fun z hz => by
   obtain ⟨x, hx, rfl⟩ := List.mem_map.1 hz
   have := hk (hl x hx).1; omega)
  (by omega)
 rw [List.length_map] at this
 omega
theorem sm_of {l : List O.Pl} {out : Int} (h : O.May l out) : O.Sm l := fun x hx => by
 have := O.fits_iff.1 (h.2.2.2.1 x hx)
 have := h.2.1
 omega
end Y
end Go.Proofs.YtijkbflimbffmaaGreat
namespace Go.Proofs.YtijkbflimbffmaaGreat.M
def puts (n : Nat) : List Int :=
 if n < 128 then [(n : Int)] else ((n % 128 + 128 : Nat) : Int) :: puts (n / 128)
termination_by n
decreasing_by omega
theorem puts_lt {n : Nat} (h : n < 128) : puts n = [(n : Int)] := by rw [puts, if_pos h]
theorem puts_ge {n : Nat} (h : 128 <= n) : puts n = ((n % 128 + 128 : Nat) : Int) :: puts (n / 128) := by rw [puts, if_neg (by omega)]
theorem puts_pos (n : Nat) : 0 < (puts n).length := by
 by_cases h : n < 128
 ·simp [puts_lt h]
 ·simp [puts_ge (Nat.le_of_not_lt h)]
theorem puts_len_le : ∀ (k n : Nat), n < 128 ^ (k + 1) -> (puts n).length <= k + 1
 | 0, n, h => by rw [puts_lt (by simpa using h)]; simp
 | k + 1, n, h => by
  by_cases h1 : n < 128
  ·simp [puts_lt h1]
  ·rw [puts_ge (by omega)]
   have := puts_len_le k (n / 128) (by rw [Nat.pow_succ] at h; omega)
   simp; omega
theorem puts_len6 {n : Nat} (h : n <= 1099511627776) : (puts n).length <= 6 := puts_len_le 5 n (by omega)
theorem zty : ∀ (k m n : Nat), m <= k -> m <= n -> (puts m).length <= (puts n).length
 | k, m, n, hk, h => by
  by_cases h1 : m < 128
  ·have := puts_pos n; simp [puts_lt h1]; omega
  ·rw [puts_ge (by omega), puts_ge (by omega : 128 <= n)]
   match k, hk with
   | k + 1, hk =>
    have := zty k (m / 128) (n / 128) (by omega) (by omega)
    simp; omega
   | 0, hk => omega
theorem puts_byte : ∀ (k n : Nat), n <= k -> ∀ c ∈ puts n, 0 <= c /\ c <= 255
 | k, n, hk => by
  by_cases h1 : n < 128
  ·rw [puts_lt h1]; intro c hc; simp at hc; omega
  ·rw [puts_ge (by omega)]
   intro c hc
   rcases List.mem_cons.1 hc with rfl | hc
   ·omega
   ·match k, hk with
    | k + 1, hk => exact puts_byte k (n / 128) (by omega) c hc
    | 0, hk => omega
def put (n : Int) : List Int := if 0 <= n /\ n <= 1099511627776 then puts n.toNat else []
theorem put_yes {n : Int} (h0 : 0 <= n) (h1 : n <= 1099511627776) : put n = puts n.toNat := by rw [put, if_pos ⟨h0, h1⟩]
theorem put_no {n : Int} (h : ¬ (0 <= n /\ n <= 1099511627776)) : put n = [] := by rw [put, if_neg h]
theorem put_len6 (n : Int) : (put n).length <= 6 := by
 unfold put; split
 ·exact puts_len6 (by omega)
 ·simp
theorem put_pos_iff (n : Int) : 0 < (put n).length ↔ (0 <= n /\ n <= 1099511627776) := by
 unfold put; split
 ·next h => exact ⟨fun _ => h, fun _ => puts_pos _⟩
 ·next h => simp [h]
def dig : Nat -> Bool -> Int -> Int -> List Int -> Option (Int × Nat)
 | 0, _, _, _, _ => none
 | _ + 1, _, _, _, [] => none
 | k + 1, first, acc, unit, c :: r =>
  if 128 <= c then (dig k false (acc + c % 128 * unit) (unit * 128) r).map fun p => (p.1, p.2 + 1)
  else if (c = 0 /\ first = false) \/ 1099511627776 < acc + c % 128 * unit then none
  else some (acc + c % 128 * unit, 1)
def head (b : List Int) : Option (Int × Nat) := dig 6 true 0 1 b
def get (b : List Int) (p : Int) : Int × Int :=
 if p < 0 then (0, -1) else match head (b.drop p.toNat) with
  | none => (0, -1)
  | some (n, e) => (n, p + e)
theorem dig_sound : ∀ (k : Nat) (first : Bool) (acc unit : Int) (b : List Int) (n : Int) (e : Nat), 0 < unit -> 0 <= acc -> (∀ c ∈ b, 0 <= c /\ c <= 255) -> dig k first acc unit b = some (n, e) ->
  ∃ m : Nat, n = acc + m * unit /\ b.take e = puts m /\ e = (puts m).length /\ e <= b.length /\ (first = false -> 0 < m) /\ 0 <= n /\ n <= 1099511627776
 | 0, _, _, _, _, _, _, _, _, _, h => by simp [dig] at h
 | _ + 1, _, _, _, [], _, _, _, _, _, h => by simp [dig] at h
 | k + 1, first, acc, unit, c :: r, n, e, hu, ha, hb, h => by
  have hc := hb c (by simp)
  unfold dig at h
  split at h
  ·next hge =>
   rw [Option.map_eq_some_iff] at h
   obtain ⟨⟨n', e'⟩, h', heq⟩ := h
   simp at heq
   obtain ⟨rfl, rfl⟩ := heq
   have hp : 0 <= c % 128 * unit := Int.mul_nonneg (by omega) (by omega)
   obtain ⟨m, hn, ht, hl, hle, hpos, h0, h1⟩ := dig_sound k false _ _ r n' e' (by omega) (by omega) (fun x hx => hb x (by simp [hx])) h'
   have hm := hpos rfl
   refine ⟨(c.toNat - 128) + 128 * m, ?_, ?_, ?_, by simp; omega, fun _ => by omega, h0, h1⟩
   ·rw [hn]
    have hcast : (((c.toNat - 128) + 128 * m : Nat) : Int) = c % 128 + 128 * m := by omega
    rw [hcast, Int.add_mul, Int.mul_assoc, Int.mul_comm 128, Int.mul_assoc, Int.add_assoc]
   ·rw [puts_ge (by omega), List.take_succ_cons, ht]
    congr 1
    ·omega
    ·congr 1; omega
   ·rw [puts_ge (by omega)]
    have : (c.toNat - 128 + 128 * m) / 128 = m := by omega
    rw [this, hl]; simp
  ·next hlt =>
   split at h
   ·cases h
   ·next hno =>
    simp at h
    obtain ⟨rfl, rfl⟩ := h
    have hcm : c % 128 = c := by omega
    rw [hcm] at hno ⊢
    have hp : 0 <= c * unit := Int.mul_nonneg (by omega) (by omega)
    refine ⟨c.toNat, by rw [show ((c.toNat : Nat) : Int) = c by omega], ?_, ?_, by simp, fun hf => ?_, by omega, by omega⟩
    ·rw [puts_lt (by omega)]; simp; omega
    ·rw [puts_lt (by omega)]; simp
    ·by_cases h0 : c = 0
     ·exact absurd (.inl ⟨h0, hf⟩) hno
     ·omega
theorem dig_puts : ∀ (k m : Nat) (first : Bool) (acc unit : Int) (r : List Int), m < 128 ^ k -> 0 < k -> 0 < unit -> 0 <= acc -> (first = false -> 0 < m) -> acc + m * unit <= 1099511627776 ->
  dig k first acc unit (puts m ++ r) = some (acc + m * unit, (puts m).length)
 | 0, m, _, _, _, _, h, hk, _, _, hf, hle => by omega
 | k + 1, m, first, acc, unit, r, h, _, hu, ha, hf, hle => by
  by_cases h1 : m < 128
  ·rw [puts_lt h1]
   have hcm : (m : Int) % 128 = m := by omega
   simp only [List.singleton_append, dig, hcm]
   rw [if_neg (by omega), if_neg]
   ·simp
   ·rintro (⟨h0, hf'⟩ | hgt)
    ·have := hf hf'; omega
    ·omega
  ·rw [puts_ge (by omega)]
   simp only [List.cons_append, dig]
   rw [if_pos (by omega)]
   have hmod : (((m % 128 + 128 : Nat) : Int)) % 128 = ((m % 128 : Nat) : Int) := by omega
   rw [hmod]
   have hsum : acc + ((m % 128 : Nat) : Int) * unit + ((m / 128 : Nat) : Int) * (unit * 128) = acc + m * unit := by
    have : (m : Int) = ((m % 128 : Nat) : Int) + 128 * ((m / 128 : Nat) : Int) := by omega
    conv => rhs; rw [this]
    rw [Int.add_mul, Int.mul_comm unit 128, <- Int.mul_assoc, Int.mul_comm _ (128 : Int), Int.add_assoc]
   have hp : 0 <= ((m % 128 : Nat) : Int) * unit := Int.mul_nonneg (by omega) (by omega)
   rw [dig_puts k (m / 128) false _ _ r (by rw [Nat.pow_succ] at h; omega) (by cases k with | zero => (simp at h; omega) | succ k => omega) (by omega) (by omega) (fun _ => by omega) (by rw [hsum]; exact hle)]
   rw [hsum]; simp
end Go.Proofs.YtijkbflimbffmaaGreat.M
namespace Go.Proofs.YtijkbflimbffmaaGreat
open Go.RowKit
def zsr (B : Nat) (n : Int) (w : World) (e : Ending) (w' : World) : Prop :=
 ∃ v, e = .returned v /\ w'.ownsRow B 5 1 v (M.put n).length ((M.put n).map (Value.int .u8)) /\ Below w.heap.size w w'
theorem zn4 {n c : Int} (h : c ∈ M.put n) : (Lit.int .u8 c).wf = true := by
 unfold M.put at h
 split at h
 ·have := M.puts_byte _ _ (Nat.le_refl _) c h
  simp [Lit.wf, IntKind.min, IntKind.max, IntKind.signed, IntKind.bits]; omega
 ·cases h
end Go.Proofs.YtijkbflimbffmaaGreat
namespace Go.Proofs.YtijkbflimbffmaaGreat
open Go.RowKit
def M.all (L : List Int) : Option (List Int) := if L.length <= 400 /\ ∀ n ∈ L, 0 <= n /\ n <= 1099511627776 then some (L.flatMap M.put) else none
def zqo (L : List Int) (w : World) (e : Ending) (w' : World) : Prop :=
 ∃ v ok, e = .returned (.tuple #[v, .bool ok]) /\ ok = (M.all L).isSome /\ w'.ownsRow w.heap.size 5 1 v ((M.all L).getD []).length (((M.all L).getD []).map (Value.int .u8)) /\ Below w.heap.size w w'
theorem zr8 {L : List Int} (h : 400 < L.length) : M.all L = none := by unfold M.all; rw [if_neg]; omega
theorem zss {L : List Int} {n : Int} (hm : n ∈ L) (h : ¬ (0 <= n /\ n <= 1099511627776)) : M.all L = none := by unfold M.all; rw [if_neg]; intro hh; exact h (hh.2 n hm)
theorem zpa {L : List Int} (hl : L.length <= 400) (h : ∀ n ∈ L, 0 <= n /\ n <= 1099511627776) : M.all L = some (L.flatMap M.put) := by unfold M.all; rw [if_pos ⟨hl, h⟩]
theorem zqo.no {L : List Int} {w w' : World} (h : M.all L = none) (hb : Below w.heap.size w w') : zqo L w (.returned (.tuple #[.slice none 0 0, .bool false])) w' := by
 refine ⟨_, _, rfl, ?_, ?_, hb⟩ <;> rw [h]
 ·rfl
 ·exact World.ownsRow_nil _ _ _ _
theorem flat_len : ∀ (L : List Int), (L.flatMap M.put).length <= 6 * L.length
 | [] => by simp
 | n :: r => by have := flat_len r; have := M.put_len6 n; rw [List.flatMap_cons, List.length_append, List.length_cons]; omega
theorem zrh {L : List Int} {k : Nat} (hk : k < L.length) : (L.take (k + 1)).flatMap M.put = (L.take k).flatMap M.put ++ M.put (L.getD k 0) := by
 rw [List.take_succ_eq_append_getElem hk, List.flatMap_append]; simp [hk]
end Go.Proofs.YtijkbflimbffmaaGreat
namespace Go.Proofs.YtijkbflimbffmaaGreat
open Go.RowKit
def M.isn (n : Int) : Prop := 0 <= n /\ n <= 1099511627776
theorem zoi {n : Int} (h : M.isn n) (r : List Int) : M.head (M.put n ++ r) = some (n, (M.put n).length) := by
 rw [M.put_yes h.1 h.2]
 have h1 := h.1; have h2 := h.2
 have := M.dig_puts 6 n.toNat true 0 1 r (by omega) (by omega) (by omega) (by omega) (by simp) (by omega)
 rw [M.head, this]
 congr 2
 omega
theorem zok {n : Int} (h : M.isn n) : 0 < (M.put n).length := (M.put_pos_iff n).2 h
theorem znn : ∀ (l k : List Int) (r : List Int), (∀ n ∈ l, M.isn n) -> (∀ n ∈ k, M.isn n) -> l.flatMap M.put ++ r = k.flatMap M.put -> ∃ t, k = l ++ t /\ r = t.flatMap M.put
 | [], k, r, _, _, h => ⟨k, rfl, by simpa using h⟩
 | n :: l, [], r, hl, _, h => by
  have := zok (hl n (by simp))
  have h' := congrArg List.length h
  simp only [List.flatMap_cons, List.flatMap_nil, List.length_append, List.length_nil] at h'; omega
 | n :: l, m :: k, r, hl, hk, h => by
  have hn := hl n (by simp)
  have hm := hk m (by simp)
  simp only [List.flatMap_cons, List.append_assoc] at h
  have e1 := zoi hn (l.flatMap M.put ++ r)
  rw [h, zoi hm] at e1
  simp at e1
  obtain ⟨rfl, _⟩ := e1
  obtain ⟨t, rfl, ht⟩ := znn l k r (fun x hx => hl x (by simp [hx])) (fun x hx => hk x (by simp [hx])) (List.append_cancel_left h)
  exact ⟨t, rfl, ht⟩
theorem zqi {l k : List Int} (hl : ∀ n ∈ l, M.isn n) (hk : ∀ n ∈ k, M.isn n) (h : l.flatMap M.put = k.flatMap M.put) : l = k := by
 obtain ⟨t, rfl, ht⟩ := znn l k [] hl hk (by simpa using h)
 cases t with
 | nil => simp
 | cons n t =>
  have := zok (hk n (by simp))
  have h' := congrArg List.length ht
  simp only [List.flatMap_cons, List.length_append, List.length_nil] at h'; omega
theorem znc {l b : List Int} : M.all l = some b ↔ (l.length <= 400 /\ (∀ n ∈ l, M.isn n) /\ b = l.flatMap M.put) := by
 unfold M.all
 constructor
 ·intro h
  split at h
  ·next hh => exact ⟨hh.1, hh.2, by simpa using h.symm⟩
  ·cases h
 ·rintro ⟨h1, h2, rfl⟩
  rw [if_pos ⟨h1, h2⟩]
theorem zst {l k b : List Int} (h : M.all l = some b) (h' : M.all k = some b) : l = k := by
 obtain ⟨_, h2, h3⟩ := znc.1 h
 obtain ⟨_, k2, k3⟩ := znc.1 h'
 exact zqi h2 k2 (h3.symm.trans k3)
open Classical in
noncomputable def M.read (b : List Int) : Option (List Int) := if h : ∃ l, M.all l = some b then some (Classical.choose h) else none
theorem read_some {l b : List Int} : M.read b = some l ↔ M.all l = some b := by
 unfold M.read
 constructor
 ·intro h
  split at h
  ·next hh =>
   have e : Classical.choose hh = l := by simpa using h
   rw [<- e]; exact Classical.choose_spec hh
  ·cases h
 ·intro h
  have hh : ∃ l, M.all l = some b := ⟨l, h⟩
  rw [dif_pos hh]
  congr 1
  exact zst (Classical.choose_spec hh) h
theorem read_none {b : List Int} (h : ∀ l, M.all l ≠ some b) : M.read b = none := by
 cases hr : M.read b with
 | none => rfl
 | some l => exact absurd (read_some.1 hr) (h l)
def Part (b l : List Int) (p : Nat) : Prop := p <= b.length /\ (∀ n ∈ l, M.isn n) /\ b.take p = l.flatMap M.put
theorem Part.start (b : List Int) : Part b [] 0 := ⟨by omega, by simp, by simp⟩
theorem Part.stops {b l k : List Int} {p : Nat} (h : Part b l p) (hp : p < b.length) (hk : M.all k = some b) : ∃ n t, k = l ++ n :: t /\ M.isn n /\ M.head (b.drop p) = some (n, (M.put n).length) := by
 obtain ⟨_, h2, h3⟩ := h
 obtain ⟨_, k2, k3⟩ := znc.1 hk
 have e : l.flatMap M.put ++ b.drop p = k.flatMap M.put := by rw [<- h3, List.take_append_drop, k3]
 obtain ⟨t, rfl, ht⟩ := znn l k _ h2 k2 e
 cases t with
 | nil => have := congrArg List.length ht; simp at this; omega
 | cons n t => exact ⟨n, t, rfl, k2 n (by simp), by rw [ht, List.flatMap_cons]; exact zoi (k2 n (by simp)) _⟩
theorem Part.fail {b l : List Int} {p : Nat} (h : Part b l p) (hp : p < b.length) (hh : M.head (b.drop p) = none) : M.read b = none :=
 read_none fun k hk => by
  obtain ⟨n, t, _, _, e⟩ := h.stops hp hk
  rw [hh] at e; cases e
theorem Part.done {b l : List Int} {p : Nat} (h : Part b l p) (hp : b.length <= p) (hl : l.length <= 400) : M.read b = some l := by
 refine read_some.2 (znc.2 ⟨hl, h.2.1, ?_⟩)
 rw [<- h.2.2, List.take_of_length_le hp]
theorem zoc {b : List Int} {n : Int} {e : Nat} (hb : ∀ c ∈ b, 0 <= c /\ c <= 255) (h : M.head b = some (n, e)) : M.isn n /\ b.take e = M.put n /\ e = (M.put n).length /\ e <= b.length /\ 0 < e := by
 obtain ⟨m, hn, ht, hl, hle, _, h0, h1⟩ := M.dig_sound 6 true 0 1 b n e (by omega) (by omega) hb h
 have hm : n.toNat = m := by omega
 have hp : M.put n = M.puts m := by rw [M.put_yes h0 h1, hm]
 rw [hp]
 exact ⟨⟨h0, h1⟩, ht, hl, hle, by rw [hl]; exact M.puts_pos m⟩
theorem Part.step {b l : List Int} {p : Nat} {n : Int} {e : Nat} (hb : ∀ c ∈ b, 0 <= c /\ c <= 255) (h : Part b l p) (hh : M.head (b.drop p) = some (n, e)) : Part b (l ++ [n]) (p + e) /\ 0 < e /\ p < b.length /\ M.isn n := by
 obtain ⟨hn, ht, hl, hle, h0⟩ := zoc (fun c hc => hb c (List.mem_of_mem_drop hc)) hh
 obtain ⟨h1, h2, h3⟩ := h
 simp at hle
 refine ⟨⟨by omega, ?_, ?_⟩, h0, by omega, hn⟩
 ·intro x hx
  rcases List.mem_append.1 hx with hx | hx
  ·exact h2 x hx
  ·simp at hx; rw [hx]; exact hn
 ·rw [List.take_add, h3, ht]; simp
theorem zqj {n : Int} (h : M.isn n) : (Lit.int .i64 n).wf = true := by
 have h1 := h.1; have h2 := h.2
 simp [Lit.wf, IntKind.min, IntKind.max, IntKind.signed, IntKind.bits]; omega
theorem zr9 {l b : List Int} (h : M.all l = some b) : ∀ c ∈ b, (Lit.int .u8 c).wf = true := by
 obtain ⟨_, _, rfl⟩ := znc.1 h
 intro c hc
 obtain ⟨n, _, hn⟩ := List.mem_flatMap.1 hc
 exact zn4 hn
theorem zsn (L : List Int) : ∀ c ∈ (M.all L).getD [], (Lit.int .u8 c).wf = true := by
 cases hr : M.all L with
 | none => simp
 | some b => simpa using zr9 hr
theorem zsu (L : List Int) : ∀ c ∈ (M.read L).getD [], (Lit.int .i64 c).wf = true := by
 cases hr : M.read L with
 | none => simp
 | some b => simpa using fun c hc => zqj ((znc.1 (read_some.1 hr)).2.1 c hc)
end Go.Proofs.YtijkbflimbffmaaGreat
namespace Go.Proofs.YtijkbflimbffmaaGreat
open Go.RowKit
def zpb (L : List Int) (p : Int) (w : World) (e : Ending) (w' : World) : Prop :=
 e = .returned (.tuple #[.int .i64 (M.get L p).1, .int .i64 (M.get L p).2]) /\ w = w'
theorem zpb.mk {L : List Int} {p n q : Int} {w : World} (h : M.get L p = (n, q)) : zpb L p w (.returned (.tuple #[.int .i64 n, .int .i64 q])) w := by
 unfold zpb; rw [h]; exact ⟨rfl, rfl⟩
theorem zsv {L : List Int} {p : Int} (h : p < 0) : M.get L p = (0, -1) := by unfold M.get; rw [if_pos h]
theorem get_none {L : List Int} {q : Nat} (h : M.head (L.drop q) = none) : M.get L q = (0, -1) := by
 unfold M.get; rw [if_neg (by omega)]; simp [h]
theorem get_some {L : List Int} {q : Nat} {n : Int} {e : Nat} (h : M.head (L.drop q) = some (n, e)) : M.get L q = (n, (q : Int) + e) := by
 unfold M.get; rw [if_neg (by omega)]; simp [h]
def At (L : List Int) (q j k : Nat) (acc u : Int) : Prop :=
 k = q + j /\ u = 128 ^ j /\ M.head (L.drop q) = (M.dig (6 - j) (decide (j = 0)) acc u (L.drop k)).map fun p => (p.1, p.2 + j)
theorem At.start (L : List Int) (q : Nat) : At L q 0 q 0 1 := ⟨rfl, rfl, by unfold M.head; simp⟩
theorem At.step {L : List Int} {q j k : Nat} {acc u c : Int} (h : At L q j k acc u) (hj : j < 6) (hd : L.drop k = c :: L.drop (k + 1)) (hc : 128 <= c) : At L q (j + 1) (k + 1) (acc + c % 128 * u) (u * 128) := by
 obtain ⟨h1, h2, h3⟩ := h
 refine ⟨by omega, by rw [h2, Int.pow_succ], ?_⟩
 rw [h3, hd]
 obtain ⟨i, hi⟩ : ∃ i, 6 - j = i + 1 := ⟨5 - j, by omega⟩
 have hi' : 6 - (j + 1) = i := by omega
 rw [hi, hi', M.dig, if_pos hc, Option.map_map, show decide (j + 1 = 0) = false by simp]
 congr 1
 funext p
 simp [Nat.add_assoc, Nat.add_comm 1 j]
theorem At.over {L : List Int} {q j k : Nat} {acc u : Int} (h : At L q j k acc u) (hj : 6 <= j) : M.get L q = (0, -1) := by
 refine get_none ?_
 rw [h.2.2, show 6 - j = 0 by omega]; rfl
theorem At.eob {L : List Int} {q j k : Nat} {acc u : Int} (h : At L q j k acc u) (hk : L.length <= k) : M.get L q = (0, -1) := by
 refine get_none ?_
 rw [h.2.2, List.drop_eq_nil_of_le hk]
 cases h6 : 6 - j <;> rfl
theorem At.bad {L : List Int} {q j k : Nat} {acc u c : Int} (h : At L q j k acc u) (hd : L.drop k = c :: L.drop (k + 1)) (hc : c < 128) (hb : (c = 0 /\ q < k) \/ 1099511627776 < acc + c % 128 * u) : M.get L q = (0, -1) := by
 refine get_none ?_
 obtain ⟨h1, h2, h3⟩ := h
 rw [h3, hd]
 cases h6 : 6 - j with
 | zero => rfl
 | succ i =>
  rw [M.dig, if_neg (by omega), if_pos]
  ·rfl
  ·rcases hb with ⟨h0, hq⟩ | hb
   ·exact .inl ⟨h0, by simp; omega⟩
   ·exact .inr hb
theorem At.good {L : List Int} {q j k : Nat} {acc u c : Int} (h : At L q j k acc u) (hj : j < 6) (hd : L.drop k = c :: L.drop (k + 1)) (hc : c < 128) (hb : ¬ ((c = 0 /\ q < k) \/ 1099511627776 < acc + c % 128 * u)) : M.get L q = (acc + c % 128 * u, (k : Int) + 1) := by
 obtain ⟨h1, h2, h3⟩ := h
 obtain ⟨i, hi⟩ : ∃ i, 6 - j = i + 1 := ⟨5 - j, by omega⟩
 have hh : M.head (L.drop q) = some (acc + c % 128 * u, 1 + j) := by
  rw [h3, hd, hi, M.dig, if_neg (by omega), if_neg]
  ·rfl
  ·rintro (⟨h0, hq⟩ | hb')
   ·exact hb (.inl ⟨h0, by simp at hq; omega⟩)
   ·exact hb (.inr hb')
 rw [get_some hh]
 congr 1
 omega
theorem At.unit {L : List Int} {q j k : Nat} {acc u : Int} (h : At L q j k acc u) (hj : j <= 6) : 1 <= u /\ (j < 6 -> u <= 34359738368) /\ (j = 6 -> u = 4398046511104) /\ u <= 4398046511104 := by
 obtain ⟨_, rfl, _⟩ := h
 have : j = 0 \/ j = 1 \/ j = 2 \/ j = 3 \/ j = 4 \/ j = 5 \/ j = 6 := by omega
 rcases this with rfl | rfl | rfl | rfl | rfl | rfl | rfl <;> simp
theorem zsw {c u : Int} (hu : 1 <= u) : 0 <= c % 128 * u /\ c % 128 * u <= 127 * u :=
 ⟨Int.mul_nonneg (by omega) (by omega), Int.mul_le_mul_of_nonneg_right (by omega) (by omega)⟩
theorem zn5 {L : List Int} {p n q : Int} {w : World} (h : M.get L p = (n, q)) {f : FuncId} {args : Array Value} (hc : Calls Tryz.prog f args w (zpb L p w)) :
  Calls Tryz.prog f args w fun e w' => e = .returned (.tuple #[.int .i64 n, .int .i64 q]) /\ w = w' :=
 hc.mono fun e w' he => by unfold zpb at he; rw [h] at he; exact he
end Go.Proofs.YtijkbflimbffmaaGreat
namespace Go.Proofs.YtijkbflimbffmaaGreat
open Go.RowKit
def zo1 (b : List Int) (B : Nat) (w : World) (e : Ending) (w' : World) : Prop :=
 ∃ v ok, e = .returned (.tuple #[v, .bool ok]) /\ ok = (M.read b).isSome /\ w'.ownsRow B 3 1 v ((M.read b).getD []).length (((M.read b).getD []).map (Value.int .i64)) /\ Below w.heap.size w w'
theorem zo1.no {b : List Int} {B : Nat} {w w' : World} (h : M.read b = none) (hb : Below w.heap.size w w') : zo1 b B w (.returned (.tuple #[.slice none 0 0, .bool false])) w' := by
 refine ⟨_, _, rfl, ?_, ?_, hb⟩ <;> rw [h]
 ·rfl
 ·exact World.ownsRow_nil _ _ _ _
theorem zo1.yes {b l : List Int} {B : Nat} {v : Value} {w w' : World} (h : M.read b = some l) (ho : w'.ownsRow B 3 1 v l.length (l.map (Value.int .i64))) (hb : Below w.heap.size w w') : zo1 b B w (.returned (.tuple #[v, .bool true])) w' := by
 refine ⟨_, _, rfl, ?_, ?_, hb⟩ <;> rw [h]
 ·rfl
 ·exact ho
end Go.Proofs.YtijkbflimbffmaaGreat
namespace Go.Proofs.YtijkbflimbffmaaGreat
namespace N
def May (e : Y.Ev) : Prop :=
 (0 <= e.t /\ e.t <= 1073741824) /\
 ((e.k = 0 \/ e.k = 1) /\ (0 <= e.a /\ e.a <= 31) /\ (0 <= e.b /\ e.b <= 3) /\ (0 <= e.c /\ e.c <= 7) /\ e.p = Y.zp \/
 e.k = 2 /\ (0 <= e.a /\ e.a <= 3) /\ (1 <= e.b /\ e.b <= 4) /\ e.c = 0 /\ e.p = Y.zp \/
 (e.k = 3 \/ e.k = 5) /\ (0 <= e.a /\ e.a <= 2) /\ e.b = 0 /\ e.c = 0 /\ e.p = Y.zp \/
 e.k = 4 /\ (0 <= e.a /\ e.a <= 2) /\ (1 <= e.b /\ e.b <= 4) /\ e.c = 0 /\ e.p = Y.zp \/
 e.k = 6 /\ e.a = 0 /\ e.b = 0 /\ e.c = 0 /\ Y.MayP e.p)
instance (e : Y.Ev) : Decidable (May e) := by unfold May; exact inferInstance
def tick (t : Int) : Prop := 0 <= t /\ t <= 1073741824
instance (t : Int) : Decidable (tick t) := by unfold tick; exact inferInstance
def ok : Int -> List Y.Ev -> Prop
 | _, [] => True
 | t, e :: l => May e /\ t <= e.t /\ ok e.t l
instance ok.dec : (t : Int) -> (l : List Y.Ev) -> Decidable (ok t l)
 | _, [] => .isTrue trivial
 | _, e :: l => @instDecidableAnd _ _ inferInstance (@instDecidableAnd _ _ inferInstance (ok.dec e.t l))
theorem May.kind {e : Y.Ev} (h : May e) : 0 <= e.k /\ e.k <= 6 := by
 obtain ⟨-, h⟩ := h
 rcases h with ⟨h, -⟩ | ⟨h, -⟩ | ⟨h, -⟩ | ⟨h, -⟩ | ⟨h, -⟩ <;> omega
open Classical in
def low (k : Int) : Int := if k = 2 \/ k = 4 then 1 else 0
def hiA (k : Int) : Int := if k = 0 \/ k = 1 then 31 else if k = 2 then 3 else if k = 6 then 0 else 2
def hiB (k : Int) : Int := if k = 0 \/ k = 1 then 3 else if k = 2 \/ k = 4 then 4 else 0
def hiC (k : Int) : Int := if k = 0 \/ k = 1 then 7 else 0
theorem may_iff (e : Y.Ev) : May e ↔ (0 <= e.k /\ e.k <= 6) /\ tick e.t /\ (0 <= e.a /\ e.a <= hiA e.k) /\ (low e.k <= e.b /\ e.b <= hiB e.k) /\ (0 <= e.c /\ e.c <= hiC e.k) /\ (e.k = 6 -> Y.MayP e.p) /\ (¬ e.k = 6 -> e.p = Y.zp) := by
 constructor
 ·intro h
  refine ⟨h.kind, h.1, ?_⟩
  obtain ⟨-, h⟩ := h
  unfold low hiA hiB hiC
  rcases h with ⟨k1, h1, h2, h3, h4⟩ | ⟨k1, h1, h2, h3, h4⟩ | ⟨k1, h1, h2, h3, h4⟩ | ⟨k1, h1, h2, h3, h4⟩ | ⟨k1, h1, h2, h3, h4⟩
  ·rw [if_pos k1, if_pos k1, if_pos k1, if_neg (by omega)]; exact ⟨h1, h2, h3, by omega, fun _ => h4⟩
  ·simp [k1]; exact ⟨h1, h2, by omega, h4⟩
  ·rcases k1 with k1 | k1 <;> simp [k1] <;> exact ⟨h1, by omega, by omega, h4⟩
  ·simp [k1]; exact ⟨h1, h2, by omega, h4⟩
  ·simp [k1]; exact ⟨by omega, by omega, by omega, h4⟩
 ·rintro ⟨hk, ht, ha, hb, hc, h6, hz⟩
  refine ⟨ht, ?_⟩
  have k1 : e.k = 0 \/ e.k = 1 \/ e.k = 2 \/ e.k = 3 \/ e.k = 4 \/ e.k = 5 \/ e.k = 6 := by omega
  unfold low at hb
  unfold hiA at ha
  unfold hiB at hb
  unfold hiC at hc
  rcases k1 with k1 | k1 | k1 | k1 | k1 | k1 | k1 <;> simp [k1] at ha hb hc h6 hz ⊢
  ·exact ⟨ha, hb, hc, hz⟩
  ·exact ⟨ha, hb, hc, hz⟩
  ·exact ⟨ha, hb, by omega, hz⟩
  ·exact ⟨ha, by omega, by omega, hz⟩
  ·exact ⟨ha, hb, by omega, hz⟩
  ·exact ⟨ha, by omega, by omega, hz⟩
  ·exact ⟨by omega, by omega, by omega, h6⟩
theorem zp_iff (q i h : Int) (pr : Bool) : ((⟨q, i, h, pr⟩ : Y.Po) = Y.zp) ↔ (q = 0 /\ i = 0 /\ h = 0 /\ pr = false) := by
 unfold Y.zp
 rw [Y.Po.mk.injEq]
end N
end Go.Proofs.YtijkbflimbffmaaGreat
namespace Go.Proofs.YtijkbflimbffmaaGreat
namespace J
open Y
def setT (n : Int) (x : L.Ls) : L.Ls := { x with t := n }
def settled (s : St) (n : Int) : St := { s with now := n, l := s.l.map (setT n), h := L.clean s.h n }
def can (s : St) (n : Int) : Prop := May s /\ s.now <= n /\ n <= 1073741824
instance (s : St) (n : Int) : Decidable (can s n) := by unfold can; exact inferInstance
def settle (s : St) (n : Int) : St × Bool := if can s n then (settled s n, true) else (s, false)
def pools (s : St) (e : Ev) : List O.Pl × Int :=
 if e.k = 2 then O.add s.ps (E.no s.d) e.a e.b
 else if e.k = 3 then O.drain s.ps (E.no s.d) e.a
 else if e.k = 4 then O.size s.ps (E.no s.d) e.a e.b (L.busy s.l)
 else O.gone s.ps (E.no s.d) e.a (L.busy s.l)
def lsOf (e : Ev) : L.Ls := ⟨e.a, e.b, e.c, e.t, e.t⟩
def made (s : St) (e : Ev) : Option St :=
 if e.k = 0 then (if (L.put s.l (lsOf e)).2 = true then some { s with l := (L.put s.l (lsOf e)).1 } else none)
 else if e.k = 1 then (match get s e.b e.c with | some x => if x.s = e.a then some (free1 s x e.t) else none | none => none)
 else if e.k = 6 then some { s with p := e.p }
 else if (pools s e).2 = 0 then some { s with ps := (pools s e).1 } else none
def fits (s : St) (e : Ev) : Option St := match made s e with | some u => if May u then some u else none | none => none
def apply (s : St) (e : Ev) : St × Int :=
 if ¬ May s \/ ¬ N.May e then (s, 1)
 else if e.t < s.now then (s, 10)
 else match fits (settled s e.t) e with | some u => (u, 0) | none => (s, 2)
def from' (s : St) : St -> List Ev -> St × Int
 | t, [] => (t, 0)
 | t, e :: l => if (apply t e).2 = 0 then from' s (apply t e).1 l else (s, (apply t e).2)
def all (s : St) (l : List Ev) : St × Int := from' s s l
def marks (n : Int) (l : List L.Ls) (k : Nat) : List L.Ls := (l.take k).map (setT n) ++ l.drop k
theorem marks_zero (n : Int) (l : List L.Ls) : marks n l 0 = l := by simp [marks]
theorem marks_all {n : Int} {l : List L.Ls} {k : Nat} (h : l.length <= k) : marks n l k = l.map (setT n) := by
 unfold marks; rw [List.take_of_length_le h, List.drop_of_length_le h, List.append_nil]
theorem marks_len (n : Int) (l : List L.Ls) (k : Nat) : (marks n l k).length = l.length := by simp [marks]; omega
theorem marks_at {n : Int} {l : List L.Ls} {k : Nat} {z : L.Ls} (h : l[k]? = some z) : (marks n l k)[k]? = some z := by
 have hk := (List.getElem?_eq_some_iff.1 h).1
 unfold marks
 rw [List.getElem?_append_right (by simp; omega)]
 simp [Nat.min_eq_left (Nat.le_of_lt hk), h]
theorem marks_set {n : Int} {l : List L.Ls} {k : Nat} {z : L.Ls} (h : l[k]? = some z) : (marks n l k).set k { z with t := n } = marks n l (k + 1) := by
 obtain ⟨hk, hz⟩ := List.getElem?_eq_some_iff.1 h
 unfold marks
 rw [List.set_append_right _ _ (by simp; omega), List.take_add_one, h]
 rw [List.drop_eq_getElem_cons hk]
 simp [Nat.min_eq_left (Nat.le_of_lt hk), setT, hz]
theorem setT_twice (l : List L.Ls) (n : Int) : (l.map (setT n)).map (setT n) = l.map (setT n) := by
 rw [List.map_map]; rfl
theorem clean_twice (h : List L.T3) (n : Int) : L.clean (L.clean h n) n = L.clean h n := by
 unfold L.clean; rw [List.filter_filter]; simp
theorem settled_twice (s : St) (n : Int) : settled (settled s n) n = settled s n := by
 unfold settled
 simp only [setT_twice, clean_twice]
theorem settled_may {s : St} {n : Int} (hm : May s) (h0 : s.now <= n) (h1 : n <= 1073741824) : May (settled s n) := by
 obtain ⟨m1, m2, m3, m4, m5, m6, m7, m8, m9⟩ := hm
 refine ⟨m1, m2, m3, ⟨by show 0 <= n; omega, h1⟩, by show (s.l.map _).length <= 32; rw [List.length_map]; exact m5, ?_, fun y hy => ?_, clean_srt m8 n, fun y hy => ?_⟩
 ·show L.Srt (s.l.map _)
  unfold L.Srt at *
  rw [List.pairwise_map]
  exact m6.imp (fun {x y} h => h)
 ·obtain ⟨x, hx, rfl⟩ := List.mem_map.1 hy
  obtain ⟨k1, k2, k3, k4, k5, k6, k7, k8, k9⟩ := m7 x hx
  refine ⟨k1, k2, k3, k4, k5, by show x.f <= n; omega, Int.le_refl _, ?_, ?_⟩
  ·show n < n + s.p.i
   have := m2.2.2.1; omega
  ·show ((cnt (s.l.map (setT n)) x.s : Nat) : Int) <= s.p.q
   rw [cnt_map (f := setT n) (fun _ => rfl)]; exact k9
 ·obtain ⟨hy1, hy2⟩ := clean_mem.1 hy
  obtain ⟨k1, k2, k3, k4⟩ := m9 y hy1
  refine ⟨k1, hy2, by show y.x <= n + 1048576; omega, fun z hz => ?_⟩
  obtain ⟨x, hx, rfl⟩ := List.mem_map.1 hz
  exact k4 x hx
theorem settle_yes {s : St} {n : Int} (h : can s n) : settle s n = (settled s n, true) := by unfold settle; rw [if_pos h]
theorem settle_no {s : St} {n : Int} (h : ¬ can s n) : settle s n = (s, false) := by unfold settle; rw [if_neg h]
theorem settle_may {s t : St} {n : Int} (h : settle s n = (t, true)) : can s n /\ t = settled s n /\ May t /\ settle t n = (t, true) := by
 by_cases hc : can s n
 ·rw [settle_yes hc] at h
  obtain rfl : settled s n = t := by simpa using h
  have hm := settled_may hc.1 hc.2.1 hc.2.2
  refine ⟨hc, rfl, hm, ?_⟩
  rw [settle_yes (show can (settled s n) n from ⟨hm, Int.le_refl _, hc.2.2⟩), settled_twice]
 ·rw [settle_no hc] at h; simp at h
theorem settled_now {s : St} (hm : May s) (ht : ∀ x ∈ s.l, x.t = s.now) : settled s s.now = s := by
 have e1 : s.l.map (setT s.now) = s.l := by
  conv => rhs; rw [<- List.map_id s.l]
  refine List.map_congr_left fun x hx => ?_
  unfold setT
  rw [<- ht x hx]; rfl
 have e2 : L.clean s.h s.now = s.h := by
  unfold L.clean
  rw [List.filter_eq_self]
  intro y hy
  have := (hm.2.2.2.2.2.2.2.2 y hy).2.1
  simpa using this
 unfold settled
 rw [e1, e2]
theorem made_keep {s u : St} {e : Ev} (h : made s e = some u) : u.d = s.d /\ u.now = s.now := by
 unfold made at h
 split at h
 ·split at h <;> cases h; exact ⟨rfl, rfl⟩
 split at h
 ·split at h
  ·split at h <;> cases h; exact ⟨rfl, rfl⟩
  ·cases h
 split at h
 ·cases h; exact ⟨rfl, rfl⟩
 split at h <;> cases h; exact ⟨rfl, rfl⟩
theorem made_pools {s : St} {e : Ev} {l : List O.Pl} {er : Int} (h0 : e.k ≠ 0) (h1 : e.k ≠ 1) (h6 : e.k ≠ 6) (h : pools s e = (l, er)) : made s e = if er = 0 then some { s with ps := l } else none := by
 unfold made; rw [if_neg h0, if_neg h1, if_neg h6, h]
theorem pools2 {s : St} {e : Ev} (h : e.k = 2) : pools s e = O.add s.ps (E.no s.d) e.a e.b := by unfold pools; rw [if_pos h]
theorem pools3 {s : St} {e : Ev} (h : e.k = 3) : pools s e = O.drain s.ps (E.no s.d) e.a := by unfold pools; rw [if_neg (by omega), if_pos h]
theorem pools4 {s : St} {e : Ev} (h : e.k = 4) : pools s e = O.size s.ps (E.no s.d) e.a e.b (L.busy s.l) := by unfold pools; rw [if_neg (by omega), if_neg (by omega), if_pos h]
theorem pools5 {s : St} {e : Ev} (h : e.k = 5) : pools s e = O.gone s.ps (E.no s.d) e.a (L.busy s.l) := by unfold pools; rw [if_neg (by omega), if_neg (by omega), if_neg (by omega)]
theorem made6 {s : St} {e : Ev} (h : e.k = 6) : made s e = some { s with p := e.p } := by unfold made; rw [if_neg (by omega), if_neg (by omega), if_pos h]
theorem fits_some {s u : St} {e : Ev} (h : fits s e = some u) : made s e = some u /\ May u := by
 unfold fits at h
 split at h
 ·split at h <;> cases h
  exact ⟨by assumption, by assumption⟩
 ·cases h
theorem fits_may {s u : St} {e : Ev} (h : made s e = some u) (hm : May u) : fits s e = some u := by
 unfold fits; rw [h]; simp [hm]
theorem fits_not {s u : St} {e : Ev} (h : made s e = some u) (hm : ¬ May u) : fits s e = none := by
 unfold fits; rw [h]; simp [hm]
theorem fits_none {s : St} {e : Ev} (h : made s e = none) : fits s e = none := by
 unfold fits; rw [h]
theorem apply_arg {s : St} {e : Ev} (h : ¬ May s \/ ¬ N.May e) : apply s e = (s, 1) := by unfold apply; rw [if_pos h]
theorem apply_clock {s : St} {e : Ev} (h1 : May s) (h2 : N.May e) (h : e.t < s.now) : apply s e = (s, 10) := by unfold apply; rw [if_neg (by simp [h1, h2]), if_pos h]
theorem apply_made {s : St} {e : Ev} (h1 : May s) (h2 : N.May e) (h : ¬ e.t < s.now) : apply s e = match fits (settled s e.t) e with | some u => (u, 0) | none => (s, 2) := by unfold apply; rw [if_neg (by simp [h1, h2]), if_neg h]
theorem apply_err {s t : St} {e : Ev} {f : Int} (h : apply s e = (t, f)) (hf : f ≠ 0) : t = s := by
 unfold apply at h
 split at h
 ·exact (by simpa using h : s = t /\ _).1.symm
 split at h
 ·exact (by simpa using h : s = t /\ _).1.symm
 split at h
 ·simp at h; exact absurd h.2.symm hf
 ·exact (by simpa using h : s = t /\ _).1.symm
theorem apply_ok {s t : St} {e : Ev} (h : apply s e = (t, 0)) : May s /\ N.May e /\ s.now <= e.t /\ made (settled s e.t) e = some t /\ May t /\ t.now = e.t /\ t.d = s.d := by
 unfold apply at h
 split at h
 ·simp at h
 rename_i h1
 split at h
 ·simp at h
 rename_i h2
 split at h
 ·rename_i u hu
  obtain rfl : u = t := by simpa using h
  obtain ⟨h3, h4⟩ := fits_some hu
  have h5 := made_keep h3
  exact ⟨Decidable.of_not_not fun e => h1 (.inl e), Decidable.of_not_not fun e => h1 (.inr e), by omega, h3, h4, h5.2, h5.1⟩
 ·simp at h
end J
end Go.Proofs.YtijkbflimbffmaaGreat
namespace Go.Proofs.YtijkbflimbffmaaGreat
open Go.RowKit
def Z.zig (n : Int) : Int := if n < -274877906944 \/ 274877906944 < n then -1 else if n < 0 then 2 * -n - 1 else 2 * n
def Z.zag (k : Int) : Int := if k < 0 \/ 549755813888 < k then 0 else if k % 2 = 1 then -((k + 1) / 2) else k / 2
theorem Z.zig_in {n : Int} (h : -274877906944 <= n /\ n <= 274877906944) : Z.zig n = if n < 0 then 2 * -n - 1 else 2 * n := by unfold Z.zig; rw [if_neg (by omega)]
theorem Z.zig_out {n : Int} (h : ¬ (-274877906944 <= n /\ n <= 274877906944)) : Z.zig n = -1 := by unfold Z.zig; rw [if_pos (by omega)]
theorem Z.zig_bd {n : Int} (h : -274877906944 <= n /\ n <= 274877906944) : 0 <= Z.zig n /\ Z.zig n <= 549755813888 := by rw [Z.zig_in h]; split <;> omega
theorem Z.zag_bd (k : Int) : -274877906944 <= Z.zag k /\ Z.zag k <= 274877906944 := by unfold Z.zag; split; omega; split <;> omega
theorem Z.zag_zig {n : Int} (h : -274877906944 <= n /\ n <= 274877906944) : Z.zag (Z.zig n) = n := by
 have := Z.zig_bd h
 unfold Z.zag; rw [if_neg (by omega)]; rw [Z.zig_in h] at *
 split <;> split at * <;> omega
def Z.isl (n : Int) : Prop := 0 <= n /\ n < 274877906944
instance (n : Int) : Decidable (Z.isl n) := inferInstanceAs (Decidable (_ /\ _))
def Z.pl : Int -> List Int -> List Int
 | _, [] => []
 | p, n :: r => Z.zig (n - p) :: Z.pl n r
def Z.un : Int -> List Int -> Option (List Int)
 | _, [] => some []
 | p, k :: r => if Z.zig (Z.zag k) = k /\ Z.isl (p + Z.zag k) then (Z.un (p + Z.zag k) r).map (fun l => (p + Z.zag k) :: l) else none
theorem Z.pl_len : ∀ (p : Int) (L : List Int), (Z.pl p L).length = L.length
 | _, [] => rfl
 | _, n :: r => by simp [Z.pl, Z.pl_len n r]
theorem Z.pl_isn : ∀ (p : Int) (L : List Int), Z.isl p -> (∀ n ∈ L, Z.isl n) -> ∀ k ∈ Z.pl p L, M.isn k
 | _, [], _, _ => by simp [Z.pl]
 | p, n :: r, hp, h => by
  have hn := h n (by simp)
  unfold Z.isl at hp hn
  intro k hk
  rcases List.mem_cons.1 hk with rfl | hk
  ·have := Z.zig_bd (n := n - p) (by omega); unfold M.isn; omega
  ·exact Z.pl_isn n r hn (fun x hx => h x (by simp [hx])) k hk
theorem Z.un_some : ∀ (ps : List Int) (p : Int) (l : List Int), Z.isl p -> (Z.un p ps = some l ↔ (Z.pl p l = ps /\ ∀ n ∈ l, Z.isl n))
 | [], p, l, _ => by
  constructor
  ·intro h; simp [Z.un] at h; subst h; exact ⟨rfl, by simp⟩
  ·rintro ⟨h, _⟩
   cases l with
   | nil => rfl
   | cons n r => simp [Z.pl] at h
 | k :: r, p, l, hp => by
  constructor
  ·intro h
   unfold Z.un at h
   split at h
   ·next hc =>
    rw [Option.map_eq_some_iff] at h
    obtain ⟨l', hl, rfl⟩ := h
    obtain ⟨h1, h2⟩ := (Z.un_some r _ l' hc.2).1 hl
    refine ⟨?_, ?_⟩
    ·simp only [Z.pl, h1]
     rw [show p + Z.zag k - p = Z.zag k by omega, hc.1]
    ·intro n hn
     rcases List.mem_cons.1 hn with rfl | hn
     ·exact hc.2
     ·exact h2 n hn
   ·cases h
  ·rintro ⟨h1, h2⟩
   cases l with
   | nil => simp [Z.pl] at h1
   | cons n l' =>
    simp only [Z.pl, List.cons.injEq] at h1
    obtain ⟨hk, hr⟩ := h1
    have hn := h2 n (by simp)
    have hd : Z.zag k = n - p := by rw [<- hk]; unfold Z.isl at hp hn; exact Z.zag_zig (by omega)
    have he : p + Z.zag k = n := by omega
    unfold Z.un
    rw [he, if_pos ⟨by rw [hd, hk], hn⟩, (Z.un_some r n l' hn).2 ⟨hr, fun x hx => h2 x (by simp [hx])⟩]
    rfl
def Z.steps (L : List Int) : Option (List Int) := if L.length <= 400 /\ ∀ n ∈ L, Z.isl n then some ((Z.pl 0 L).flatMap M.put) else none
noncomputable def Z.sums (b : List Int) : Option (List Int) := (M.read b).bind (Z.un 0)
theorem Z.steps_some {L b : List Int} : Z.steps L = some b ↔ (L.length <= 400 /\ (∀ n ∈ L, Z.isl n) /\ b = (Z.pl 0 L).flatMap M.put) := by
 unfold Z.steps
 constructor
 ·intro h
  split at h
  ·next hh => exact ⟨hh.1, hh.2, by simpa using h.symm⟩
  ·cases h
 ·rintro ⟨h1, h2, rfl⟩
  rw [if_pos ⟨h1, h2⟩]
theorem Z.steps_all {L : List Int} (h1 : L.length <= 400) (h2 : ∀ n ∈ L, Z.isl n) : M.all (Z.pl 0 L) = Z.steps L := by
 rw [Z.steps_some.2 ⟨h1, h2, rfl⟩]
 exact znc.2 ⟨by rw [Z.pl_len]; exact h1, Z.pl_isn 0 L (by unfold Z.isl; omega) h2, rfl⟩
theorem Z.steps_bad {L : List Int} {n : Int} (hm : n ∈ L) (h : ¬ Z.isl n) : Z.steps L = none := by unfold Z.steps; rw [if_neg]; intro hh; exact h (hh.2 n hm)
theorem Z.steps_long {L : List Int} (h : 400 < L.length) : Z.steps L = none := by unfold Z.steps; rw [if_neg]; omega
theorem Z.sums_some {b l : List Int} : Z.sums b = some l ↔ Z.steps l = some b := by
 have h0 : Z.isl 0 := by unfold Z.isl; omega
 unfold Z.sums
 rw [Option.bind_eq_some_iff]
 constructor
 ·rintro ⟨ps, h1, h2⟩
  obtain ⟨h3, h4⟩ := (Z.un_some ps 0 l h0).1 h2
  obtain ⟨k1, k2, k3⟩ := znc.1 (read_some.1 h1)
  subst h3
  exact Z.steps_some.2 ⟨by rw [Z.pl_len] at k1; exact k1, h4, k3⟩
 ·intro h
  obtain ⟨h1, h2, h3⟩ := Z.steps_some.1 h
  exact ⟨Z.pl 0 l, read_some.2 (znc.2 ⟨by rw [Z.pl_len]; exact h1, Z.pl_isn 0 l h0 h2, h3⟩), (Z.un_some _ 0 l h0).2 ⟨rfl, h2⟩⟩
theorem Z.steps_inj {l k b : List Int} (h : Z.steps l = some b) (h' : Z.steps k = some b) : l = k := by
 have h1 := Z.sums_some.2 h
 have h2 := Z.sums_some.2 h'
 rw [h1] at h2; cases h2; rfl
theorem Z.steps_byte {L b : List Int} (h : Z.steps L = some b) : ∀ c ∈ b, (Lit.int .u8 c).wf = true := by
 obtain ⟨h1, h2, rfl⟩ := Z.steps_some.1 h
 intro c hc
 obtain ⟨n, _, hn⟩ := List.mem_flatMap.1 hc
 exact zn4 hn
theorem Z.steps_wf (L : List Int) : ∀ c ∈ (Z.steps L).getD [], (Lit.int .u8 c).wf = true := by
 cases hr : Z.steps L with
 | none => simp
 | some b => simpa using Z.steps_byte hr
end Go.Proofs.YtijkbflimbffmaaGreat
namespace Go.Proofs.YtijkbflimbffmaaGreat
open Go.RowKit
def K.val (B : Nat) : List Int -> Nat
 | [] => 0
 | d :: r => d.toNat + B * K.val B r
def K.dig (B : Nat) : Nat -> Nat -> List Int
 | 0, _ => []
 | n + 1, N => ((N % B : Nat) : Int) :: K.dig B n (N / B)
def K.isd (B : Nat) (L : List Int) : Prop := ∀ d ∈ L, 0 <= d /\ d < (B : Int)
instance (B : Nat) (L : List Int) : Decidable (K.isd B L) := inferInstanceAs (Decidable (∀ d ∈ L, 0 <= d /\ d < (B : Int)))
theorem K.dig_len (B : Nat) : ∀ (n N : Nat), (K.dig B n N).length = n
 | 0, _ => rfl
 | n + 1, N => by simp [K.dig, K.dig_len B n]
theorem K.dig_isd {B : Nat} (hB : 0 < B) : ∀ (n N : Nat), K.isd B (K.dig B n N)
 | 0, _ => by simp [K.dig, K.isd]
 | n + 1, N => by
  intro d hd
  rcases List.mem_cons.1 hd with rfl | hd
  ·have := Nat.mod_lt N hB; omega
  ·exact K.dig_isd hB n (N / B) d hd
theorem K.isd_tail {B : Nat} {d : Int} {r : List Int} (h : K.isd B (d :: r)) : K.isd B r := fun x hx => h x (by simp [hx])
theorem K.dig_val {B : Nat} : ∀ (L : List Int), K.isd B L -> K.dig B L.length (K.val B L) = L
 | [], _ => rfl
 | d :: r, h => by
  obtain ⟨h0, h1⟩ := h d (by simp)
  obtain ⟨e, rfl⟩ : ∃ e : Nat, d = e := ⟨d.toNat, by omega⟩
  have he : e < B := by omega
  simp only [List.length_cons, K.dig, K.val, Int.toNat_natCast]
  rw [Nat.add_mul_mod_self_left, Nat.mod_eq_of_lt he, Nat.add_mul_div_left _ _ (by omega), Nat.div_eq_of_lt he, Nat.zero_add, K.dig_val r (K.isd_tail h)]
theorem K.val_dig (B : Nat) : ∀ (n N : Nat), K.val B (K.dig B n N) = N % B ^ n
 | 0, N => by simp [K.dig, K.val, Nat.mod_one]
 | n + 1, N => by
  simp only [K.dig, K.val, Int.toNat_natCast]
  rw [K.val_dig B n, Nat.pow_succ, Nat.mul_comm (B ^ n) B, Nat.mod_mul]
theorem K.val_lt {B : Nat} : ∀ (L : List Int), K.isd B L -> K.val B L < B ^ L.length
 | [], _ => by simp [K.val]
 | d :: r, h => by
  obtain ⟨h0, h1⟩ := h d (by simp)
  have ih := K.val_lt r (K.isd_tail h)
  simp only [K.val, List.length_cons, Nat.pow_succ]
  have h2 : d.toNat < B := by omega
  have h3 : B * (K.val B r + 1) <= B * B ^ r.length := Nat.mul_le_mul_left _ ih
  rw [Nat.mul_comm (B ^ r.length) B]
  rw [Nat.mul_add] at h3
  omega
theorem K.dig_add (B : Nat) : ∀ (n m N : Nat), K.dig B (n + m) N = K.dig B n N ++ K.dig B m (N / B ^ n)
 | 0, m, N => by simp [K.dig]
 | n + 1, m, N => by
  rw [Nat.add_right_comm]
  simp only [K.dig, List.cons_append]
  rw [K.dig_add B n m, Nat.div_div_eq_div_mul, Nat.pow_succ, Nat.mul_comm (B ^ n) B]
theorem K.dig_take {B n m N : Nat} (h : n <= m) : (K.dig B m N).take n = K.dig B n N := by
 have e := K.dig_add B n (m - n) N
 rw [show n + (m - n) = m by omega] at e
 rw [e, List.take_left' (K.dig_len _ _ _)]
theorem K.dig_get (B : Nat) : ∀ (n N j : Nat), j < n -> (K.dig B n N).getD j 0 = ((N / B ^ j % B : Nat) : Int)
 | 0, _, _, h => by omega
 | n + 1, N, 0, _ => by simp [K.dig]
 | n + 1, N, j + 1, h => by
  simp only [K.dig, List.getD_cons_succ]
  rw [K.dig_get B n _ j (by omega), Nat.div_div_eq_div_mul, Nat.pow_succ, Nat.mul_comm (B ^ j) B]
theorem K.dig_zero (B : Nat) : ∀ n, K.dig B n 0 = List.replicate n 0
 | 0 => rfl
 | n + 1 => by simp [K.dig, K.dig_zero B n, List.replicate_succ]
theorem K.val_get {B : Nat} {L : List Int} (h : K.isd B L) {j : Nat} (hj : j < L.length) : (L.getD j 0) = ((K.val B L / B ^ j % B : Nat) : Int) := by
 rw [<- K.dig_get B L.length _ j hj, K.dig_val L h]
def K.bit (N at_ : Nat) : Nat := N / 2 ^ at_ % 2
theorem K.bit_lt (N k : Nat) : K.bit N k < 2 := Nat.mod_lt _ (by decide)
theorem K.bit_test (N k : Nat) : K.bit N k = (N.testBit k).toNat := (Nat.toNat_testBit N k).symm
theorem K.bit_ge {N k : Nat} (h : K.bit N k = 1) : 2 ^ k <= N := by
 unfold K.bit at h
 rcases Nat.lt_or_ge N (2 ^ k) with h1 | h1
 ·rw [Nat.div_eq_of_lt h1] at h; cases h
 ·exact h1
theorem K.mod_succ (N k : Nat) : N % 2 ^ (k + 1) = N % 2 ^ k + 2 ^ k * K.bit N k := by rw [Nat.pow_succ, Nat.mod_mul]; rfl
theorem K.bit_digit (N : Nat) {w : Nat} (k : Nat) (hw : 0 < w) : K.bit (N / (2 ^ w) ^ (k / w) % 2 ^ w) (k % w) = K.bit N k := by
 have hk := Nat.mod_lt k hw
 rw [<- Nat.pow_mul, K.bit_test, K.bit_test, Nat.testBit_mod_two_pow, Nat.testBit_div_two_pow, Nat.mod_add_div]
 simp [hk]
theorem K.val_bit {w : Nat} {L : List Int} (h : K.isd (2 ^ w) L) {k : Nat} (hw : 0 < w) (hk : k / w < L.length) : K.bit (L.getD (k / w) 0).toNat (k % w) = K.bit (K.val (2 ^ w) L) k := by
 rw [K.val_get h hk, Int.toNat_natCast, K.bit_digit _ _ hw]
theorem K.old_lt {w m : Nat} (N k : Nat) (hk : k / w < m) : ∃ o : Nat, (K.dig (2 ^ w) m (N % 2 ^ k)).getD (k / w) 0 = o /\ o < 2 ^ (k % w) := by
 refine ⟨_, K.dig_get _ _ _ _ hk, ?_⟩
 have h1 : N % 2 ^ k < 2 ^ (w * (k / w)) * 2 ^ (k % w) := by rw [<- Nat.pow_add, Nat.div_add_mod]; exact Nat.mod_lt _ (Nat.two_pow_pos _)
 rw [<- Nat.pow_mul]
 exact Nat.lt_of_le_of_lt (Nat.mod_le _ _) (Nat.div_lt_of_lt_mul h1)
theorem K.dig_step {w : Nat} (hw : 0 < w) : ∀ (m N k : Nat), k / w < m -> (K.dig (2 ^ w) m (N % 2 ^ k)).set (k / w) (((K.dig (2 ^ w) m (N % 2 ^ k)).getD (k / w) 0) + ((K.bit N k * 2 ^ (k % w) : Nat) : Int)) = K.dig (2 ^ w) m (N % 2 ^ (k + 1))
 | 0, _, _, h => absurd h (Nat.not_lt_zero _)
 | m + 1, N, k, h => by
  by_cases hk : k < w
  ·have e0 : k / w = 0 := Nat.div_eq_of_lt hk
   have e1 : k % w = k := Nat.mod_eq_of_lt hk
   have hp : 2 ^ (k + 1) <= 2 ^ w := Nat.pow_le_pow_right (by decide) hk
   have hq : 2 ^ k <= 2 ^ w := Nat.pow_le_pow_right (by decide) (Nat.le_of_lt hk)
   have h1 := Nat.mod_lt N (Nat.two_pow_pos k)
   have h2 := Nat.mod_lt N (Nat.two_pow_pos (k + 1))
   rw [e0, e1]
   simp only [K.dig, List.set_cons_zero, List.getD_cons_zero]
   rw [Nat.mod_eq_of_lt (show N % 2 ^ k < 2 ^ w by omega), Nat.mod_eq_of_lt (show N % 2 ^ (k + 1) < 2 ^ w by omega), Nat.div_eq_of_lt (show N % 2 ^ k < 2 ^ w by omega), Nat.div_eq_of_lt (show N % 2 ^ (k + 1) < 2 ^ w by omega), K.mod_succ, Nat.mul_comm]
   simp
  ·obtain ⟨q, rfl⟩ : ∃ q, k = q + w := ⟨k - w, by omega⟩
   have e0 : (q + w) / w = q / w + 1 := Nat.add_div_right q hw
   have e1 : (q + w) % w = q % w := Nat.add_mod_right q w
   rw [e0] at h
   rw [e0, e1]
   simp only [K.dig, List.set_cons_succ, List.getD_cons_succ]
   have e2 : ∀ j, 2 ^ (j + w) = 2 ^ w * 2 ^ j := fun j => by rw [Nat.add_comm, Nat.pow_add]
   have e3 : K.bit N (q + w) = K.bit (N / 2 ^ w) q := by unfold K.bit; rw [e2, Nat.div_div_eq_div_mul]
   rw [show q + w + 1 = q + 1 + w by omega, e3, e2, e2, Nat.mod_mul_right_mod, Nat.mod_mul_right_mod, Nat.mod_mul_right_div_self, Nat.mod_mul_right_div_self, K.dig_step hw m (N / 2 ^ w) q (by omega)]
theorem K.or_add {o k b : Nat} (ho : o < 2 ^ k) : o ||| b * 2 ^ k = o + b * 2 ^ k := by
 rw [Nat.mul_comm, Nat.or_comm, Nat.add_comm, Nat.two_pow_add_eq_or_of_lt ho]
def K.size (n w : Int) : Int := if 0 <= n /\ n <= 400 /\ 0 <= w /\ w <= 32 then (n * w + 7) / 8 else -1
def K.pack (L : List Int) (w : Int) : Option (List Int) :=
 if L.length <= 400 /\ 0 <= w /\ w <= 32 /\ K.isd (2 ^ w.toNat) L then some (K.dig 256 ((L.length * w.toNat + 7) / 8) (K.val (2 ^ w.toNat) L)) else none
def K.unpack (b : List Int) (n w : Int) : Option (List Int) :=
 if 0 <= n /\ n <= 400 /\ 0 <= w /\ w <= 32 /\ b.length = (n.toNat * w.toNat + 7) / 8 /\ K.val 256 b < 2 ^ (n.toNat * w.toNat) then some (K.dig (2 ^ w.toNat) n.toNat (K.val 256 b)) else none
theorem K.size_in {n w : Nat} (hn : n <= 400) (hw : w <= 32) : K.size n w = (((n * w + 7) / 8 : Nat) : Int) := by
 unfold K.size; rw [if_pos (by omega)]; simp
theorem K.size_no {n w : Int} (h : ¬ (0 <= n /\ n <= 400 /\ 0 <= w /\ w <= 32)) : K.size n w = -1 := by unfold K.size; rw [if_neg h]
theorem K.pack_some {L : List Int} {w : Nat} {b : List Int} : K.pack L w = some b ↔ (L.length <= 400 /\ w <= 32 /\ K.isd (2 ^ w) L /\ b = K.dig 256 ((L.length * w + 7) / 8) (K.val (2 ^ w) L)) := by
 unfold K.pack
 rw [Int.toNat_natCast]
 constructor
 ·intro h
  split at h
  ·next hh => exact ⟨hh.1, by omega, hh.2.2.2, by simpa using h.symm⟩
  ·cases h
 ·rintro ⟨h1, h2, h3, rfl⟩
  rw [if_pos ⟨h1, by omega, by omega, h3⟩]
theorem K.pow_w (w n : Nat) : (2 ^ w) ^ n = 2 ^ (n * w) := by rw [<- Nat.pow_mul, Nat.mul_comm]
theorem K.pow_8 (m : Nat) : 256 ^ m = 2 ^ (8 * m) := by rw [show (256 : Nat) = 2 ^ 8 from rfl, <- Nat.pow_mul]
theorem K.unpack_some {b l : List Int} {n w : Nat} (hb : K.isd 256 b) : K.unpack b n w = some l ↔ (K.pack l w = some b /\ l.length = n) := by
 rw [K.pack_some]
 unfold K.unpack
 rw [Int.toNat_natCast, Int.toNat_natCast]
 constructor
 ·intro h
  split at h
  ·next hh =>
   obtain ⟨h1, h2, h3, h4, h5, h6⟩ := hh
   have h' : K.dig (2 ^ w) n (K.val 256 b) = l := by simpa using h
   subst h'
   have hv : K.val (2 ^ w) (K.dig (2 ^ w) n (K.val 256 b)) = K.val 256 b := by rw [K.val_dig, K.pow_w, Nat.mod_eq_of_lt h6]
   refine ⟨⟨by rw [K.dig_len]; omega, by omega, K.dig_isd (Nat.two_pow_pos w) _ _, ?_⟩, K.dig_len _ _ _⟩
   rw [hv, K.dig_len, <- h5, K.dig_val b hb]
  ·cases h
 ·rintro ⟨⟨h1, h2, h3, h4⟩, rfl⟩
  have hlt := K.val_lt l h3
  rw [K.pow_w] at hlt
  have hle : 2 ^ (l.length * w) <= 256 ^ ((l.length * w + 7) / 8) := by rw [K.pow_8]; exact Nat.pow_le_pow_right (by decide) (by omega)
  have hv : K.val 256 b = K.val (2 ^ w) l := by rw [h4, K.val_dig, Nat.mod_eq_of_lt (Nat.lt_of_lt_of_le hlt hle)]
  rw [if_pos ⟨by omega, by omega, by omega, by omega, by rw [h4, K.dig_len], by rw [hv]; exact hlt⟩, hv, K.dig_val l h3]
theorem K.unpack_w {b : List Int} {n w : Int} {l : List Int} (h : K.unpack b n w = some l) : ∃ m v : Nat, n = m /\ w = v /\ m <= 400 /\ v <= 32 /\ K.unpack b m v = some l := by
 have h' := h
 unfold K.unpack at h
 split at h
 ·next hh =>
  obtain ⟨v, rfl⟩ : ∃ v : Nat, w = v := ⟨w.toNat, by omega⟩
  obtain ⟨m, rfl⟩ : ∃ v : Nat, n = v := ⟨n.toNat, by omega⟩
  exact ⟨m, v, rfl, rfl, by omega, by omega, h'⟩
 ·cases h
theorem K.unpack_size {b : List Int} {n w : Int} {l : List Int} (h : K.unpack b n w = some l) : K.size n w = b.length := by
 unfold K.unpack at h
 split at h
 ·next hh =>
  obtain ⟨v, rfl⟩ : ∃ v : Nat, w = v := ⟨w.toNat, by omega⟩
  obtain ⟨m, rfl⟩ : ∃ v : Nat, n = v := ⟨n.toNat, by omega⟩
  rw [K.size_in (by omega) (by omega)]
  have := hh.2.2.2.2.1
  rw [Int.toNat_natCast, Int.toNat_natCast] at this
  omega
 ·cases h
theorem K.isd_byte {b : List Int} (h : ∀ c ∈ b, (Lit.int .u8 c).wf = true) : K.isd 256 b := fun c hc => by have := bounds_u8 (h c hc); omega
theorem K.byte_isd {b : List Int} (h : K.isd 256 b) : ∀ c ∈ b, (Lit.int .u8 c).wf = true := fun c hc => by
 have := h c hc
 exact WalkArith.wf_u8 (by omega)
theorem K.pack_byte {L : List Int} {w : Int} : K.isd 256 ((K.pack L w).getD []) := by
 unfold K.pack
 split
 ·exact K.dig_isd (by decide) _ _
 ·simp [K.isd]
theorem K.pack_wf (L : List Int) (w : Int) : ∀ c ∈ (K.pack L w).getD [], (Lit.int .u8 c).wf = true := K.byte_isd K.pack_byte
theorem K.pack_len {L : List Int} {w : Nat} {b : List Int} (h : K.pack L w = some b) : b.length = (L.length * w + 7) / 8 := by
 obtain ⟨_, _, _, rfl⟩ := K.pack_some.1 h
 exact K.dig_len _ _ _
theorem K.back {L b : List Int} {w : Nat} (h : K.pack L w = some b) : K.unpack b L.length w = some L := by
 have hb : K.isd 256 b := by have := @K.pack_byte L w; rwa [h] at this
 exact (K.unpack_some hb).2 ⟨h, rfl⟩
theorem K.pack_inj {L M b : List Int} {w : Nat} (h : K.pack L w = some b) (h' : K.pack M w = some b) (hl : L.length = M.length) : L = M := by
 have h1 := K.back h
 have h2 := K.back h'
 rw [hl, h2] at h1
 cases h1; rfl
end Go.Proofs.YtijkbflimbffmaaGreat
