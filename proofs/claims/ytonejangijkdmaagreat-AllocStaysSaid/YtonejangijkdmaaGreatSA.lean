import Derived.Lib.Hide
import Derived.Test.YtonejangijkdmaaGreatBK
import Derived.Sort.AssemblyPlain
import Derived.Shelf.SlSortFunc.Xorshift
import Derived.Shelf.GgSortFunc.Slice
import Derived.Ground.GgsProg
import Derived.Sort.WalkC
import Derived.Sort.WalkB3
import Derived.Sort.LotD4
namespace Go.Proofs.YtonejangijkdmaaGreat
set_option maxHeartbeats 400000
set_option maxRecDepth 100000
namespace W
abbrev Tm := Int × Int
def lt (x y : Tm) : Bool := decide (x.2 < y.2) || (decide (x.2 = y.2) && decide (x.1 < y.1))
theorem lt_iff {x y : Tm} : lt x y = true ↔ x.2 < y.2 \/ (x.2 = y.2 /\ x.1 < y.1) := by simp [lt]
theorem lt_not {x y : Tm} : lt x y = false ↔ y.2 < x.2 \/ (x.2 = y.2 /\ y.1 <= x.1) := by
 rw [<- Bool.not_eq_true, lt_iff]; omega
theorem lt_trans {x y z : Tm} (h : lt x y = true) (k : lt y z = true) : lt x z = true := by rw [lt_iff] at *; omega
theorem lt_irrefl (x : Tm) : lt x x = false := by rw [lt_not]; omega
theorem lt_asymm {x y : Tm} (h : lt x y = true) : lt y x = false := by rw [lt_iff] at h; rw [lt_not]; omega
theorem tm_ext {x y : Tm} (h : x.1 = y.1) (k : x.2 = y.2) : x = y := Prod.ext h k
theorem lt_total {x y : Tm} (h : x ≠ y) (k : lt x y = false) : lt y x = true := by
 rw [lt_not] at k; rw [lt_iff]
 by_cases h1 : x.1 = y.1
 ·by_cases h2 : x.2 = y.2
  ·exact absurd (tm_ext h1 h2) h
  ·omega
 ·omega
def Asc (l : List Tm) : Prop := l.Pairwise (fun x y => lt x y = true)
def Ids (l : List Tm) : Prop := l.Pairwise (fun x y => x.1 ≠ y.1)
instance (l : List Tm) : Decidable (Asc l) := inferInstanceAs (Decidable (List.Pairwise _ _))
instance (l : List Tm) : Decidable (Ids l) := inferInstanceAs (Decidable (List.Pairwise _ _))
theorem asc_eq : ∀ {l k : List Tm}, Asc l -> Asc k -> l.Perm k -> l = k
 | [], k, _, _, h => (List.nil_perm.1 h).symm ▸ rfl
 | x :: l, [], _, _, h => by have := h.length_eq; simp at this
 | x :: l, y :: k, hl, hk, h => by
  have hxy : x = y := by
   rcases List.mem_cons.1 (h.mem_iff.1 (List.mem_cons_self)) with e | hx
   ·exact e
   ·rcases List.mem_cons.1 (h.mem_iff.2 (List.mem_cons_self)) with e | hy
    ·exact e.symm
    ·have h1 := (List.pairwise_cons.1 hk).1 x hx
     have h2 := (List.pairwise_cons.1 hl).1 y hy
     rw [lt_asymm h1] at h2
     cases h2
  subst hxy
  rw [asc_eq (List.pairwise_cons.1 hl).2 (List.pairwise_cons.1 hk).2 (List.Perm.cons_inv h)]
theorem Asc.filter {l : List Tm} (h : Asc l) (p : Tm -> Bool) : Asc (l.filter p) := List.Pairwise.filter p h
theorem Ids.filter {l : List Tm} (h : Ids l) (p : Tm -> Bool) : Ids (l.filter p) := List.Pairwise.filter p h
theorem Ids.perm {l k : List Tm} (h : Ids l) (p : l.Perm k) : Ids k := p.pairwise h (fun h => Ne.symm h)
theorem Ids.nodup {l : List Tm} (h : Ids l) : l.Nodup := List.Pairwise.imp (fun h e => h (by rw [e])) h
theorem asc_of_weak {l : List Tm} (hn : l.Nodup) (h : ∀ i j (hi : i < l.length) (hj : j < l.length), i < j -> lt l[j] l[i] = false) : Asc l := by
 refine List.pairwise_iff_getElem.2 fun i j hi hj hij => ?_
 have h1 := h i j hi hj hij
 refine lt_total (fun e => ?_) h1
 have := (List.pairwise_iff_getElem.1 hn) i j hi hj hij
 exact this e.symm
theorem asc_of_next {l : List Tm} (h : ∀ i (hi : i + 1 < l.length), lt (l[i]'(by omega)) l[i + 1] = true) : Asc l := by
 refine List.pairwise_iff_getElem.2 fun i j hi hj hij => ?_
 obtain ⟨d, rfl⟩ : ∃ d, j = i + 1 + d := ⟨j - (i + 1), by omega⟩
 clear hij
 induction d with
 | zero => exact h i hj
 | succ d ih => exact lt_trans (ih (by omega)) (h (i + 1 + d) (by omega))
theorem Asc.next {l : List Tm} (h : Asc l) (i : Nat) (hi : i + 1 < l.length) : lt (l[i]'(by omega)) l[i + 1] = true := List.pairwise_iff_getElem.1 h i (i + 1) (by omega) hi (by omega)
def ok (n : Int) (t : Tm) : Bool := decide (0 <= t.1) && (decide (n < t.2) && decide (t.2 <= 1073741824))
theorem ok_iff {n : Int} {t : Tm} : ok n t = true ↔ 0 <= t.1 /\ n < t.2 /\ t.2 <= 1073741824 := by simp [ok]
def May (n : Int) (l : List Tm) : Prop := 0 <= n /\ n <= 1073741824 /\ l.length <= 64 /\ (∀ t ∈ l, ok n t = true) /\ Asc l /\ Ids l
instance (n : Int) (l : List Tm) : Decidable (May n l) := inferInstanceAs (Decidable (_ /\ _))
def may (n : Int) (l : List Tm) : Bool := decide (May n l)
theorem may_iff {n : Int} {l : List Tm} : may n l = true ↔ May n l := by simp [may]
def find (l : List Tm) (id : Int) : Option Nat := l.findIdx? (fun t => decide (t.1 = id))
def has (l : List Tm) (id : Int) : Bool := l.any (fun t => decide (t.1 = id))
theorem has_iff {l : List Tm} {id : Int} : has l id = true ↔ ∃ t ∈ l, t.1 = id := by simp [has]
theorem has_false {l : List Tm} {id : Int} : has l id = false ↔ ∀ t ∈ l, t.1 ≠ id := by simp [has]
def idx (l : List Tm) (id : Int) : Int := match find l id with | some k => k | none => -1
def ins (x : Tm) : List Tm -> List Tm
 | [] => [x]
 | y :: l => if lt x y then x :: y :: l else y :: ins x l
theorem ins_perm (x : Tm) : ∀ l, (ins x l).Perm (x :: l)
 | [] => List.Perm.refl _
 | y :: l => by
  unfold ins
  split
  ·exact List.Perm.refl _
  ·exact ((ins_perm x l).cons y).trans (List.Perm.swap x y l)
theorem ins_asc {x : Tm} : ∀ {l : List Tm}, Asc l -> (∀ t ∈ l, t ≠ x) -> Asc (ins x l)
 | [], _, _ => List.pairwise_singleton _ _
 | y :: l, h, hx => by
  unfold ins
  split
  ·rename_i h1
   refine List.pairwise_cons.2 ⟨fun z hz => ?_, h⟩
   rcases List.mem_cons.1 hz with rfl | hz
   ·exact h1
   ·exact lt_trans h1 ((List.pairwise_cons.1 h).1 z hz)
  ·rename_i h1
   have hyx : lt y x = true := lt_total (fun e => hx y (List.mem_cons_self) e.symm) (by simpa using h1)
   refine List.pairwise_cons.2 ⟨fun z hz => ?_, ins_asc (List.pairwise_cons.1 h).2 (fun t ht => hx t (List.mem_cons_of_mem _ ht))⟩
   rcases List.mem_cons.1 ((ins_perm x l).mem_iff.1 hz) with rfl | hz
   ·exact hyx
   ·exact (List.pairwise_cons.1 h).1 z hz
def add (n : Int) (l : List Tm) (id at' : Int) : List Tm × Int :=
 if may n l = false \/ id < 0 then (l, 1)
 else if at' <= n \/ 1073741824 < at' then (l, 10)
 else if has l id = true then (l, 11)
 else if l.length = 64 then (l, 9)
 else (ins (id, at') l, 0)
def left (to : Int) (l : List Tm) : List Tm := l.filter (fun t => decide (to < t.2))
def due (to : Int) (l : List Tm) : List Tm := l.filter (fun t => decide (t.2 <= to))
def step (n : Int) (l : List Tm) (to : Int) : (Int × List Tm) × List Tm × Int :=
 if may n l = false then ((n, l), [], 1)
 else if to < n \/ 1073741824 < to then ((n, l), [], 10)
 else ((to, left to l), due to l, 0)
def new (n : Int) : Int × Bool := if 0 <= n /\ n <= 1073741824 then (n, true) else (0, false)
theorem may_nil (n : Int) : may n [] = decide (0 <= n /\ n <= 1073741824) := by
 unfold may; exact decide_eq_decide.2 ⟨fun h => ⟨h.1, h.2.1⟩, fun h => ⟨h.1, h.2, by simp, by simp, List.Pairwise.nil, List.Pairwise.nil⟩⟩
def slot (k : Int) (l : List Tm) : List Tm := l.filter (fun t => decide (t.2 % 16 = k))
theorem slot_snoc (k : Int) (l : List Tm) (x : Tm) : slot k (l ++ [x]) = if x.2 % 16 = k then slot k l ++ [x] else slot k l := by
 unfold slot; rw [List.filter_append]; by_cases h : x.2 % 16 = k <;> simp [h]
def meets (from_ to : Int) (l : List Tm) (m : Nat) : List Tm := (List.range m).flatMap fun (j : Nat) => (slot ((from_ + 1 + (j : Int)) % 16) l).filter (fun t => decide (from_ < t.2 /\ t.2 <= to))
theorem meets_zero (f t : Int) (l : List Tm) : meets f t l 0 = [] := rfl
theorem meets_succ (f t : Int) (l : List Tm) (m : Nat) : meets f t l (m + 1) = meets f t l m ++ (slot ((f + 1 + (m : Int)) % 16) l).filter (fun x => decide (f < x.2 /\ x.2 <= t)) := by
 unfold meets; rw [List.range_succ, List.flatMap_append]; simp
theorem filter_or : ∀ (l : List Tm) (p q : Tm -> Bool), (∀ x ∈ l, ¬ (p x = true /\ q x = true)) -> (l.filter p ++ l.filter q).Perm (l.filter fun x => p x || q x)
 | [], _, _, _ => List.Perm.refl _
 | x :: l, p, q, h => by
  have ih := filter_or l p q (fun y hy => h y (List.mem_cons_of_mem _ hy))
  have hx := h x List.mem_cons_self
  by_cases hp : p x = true
  ·have hq : q x = false := by simpa [hp] using hx
   simp [hp, hq]; exact ih
  ·by_cases hq : q x = true
   ·simp [hp, hq]
    exact (List.perm_middle).trans (ih.cons x)
   ·simp [hp, hq]; exact ih
theorem meets_perm (f t : Int) (l : List Tm) : ∀ m : Nat, m <= 16 -> (meets f t l m).Perm (l.filter fun x => decide (f < x.2 /\ x.2 <= t) && decide (((x.2 - (f + 1)) % 16) < (m : Int)))
 | 0, _ => by
  rw [meets_zero, List.filter_eq_nil_iff.2 (fun x _ => ?_)]
  have := Int.emod_nonneg (x.2 - (f + 1)) (show (16 : Int) ≠ 0 by decide)
  simp; omega
 | m + 1, hm => by
  rw [meets_succ]
  have ih := meets_perm f t l m (by omega)
  have h1 : (slot ((f + 1 + (m : Int)) % 16) l).filter (fun x => decide (f < x.2 /\ x.2 <= t)) = l.filter (fun x => decide (f < x.2 /\ x.2 <= t) && decide (x.2 % 16 = (f + 1 + (m : Int)) % 16)) := by
   unfold slot; rw [List.filter_filter]
  rw [h1]
  refine (ih.append_right _).trans ((filter_or l _ _ (fun x _ h => ?_)).trans ?_)
  ·simp only [Bool.and_eq_true, decide_eq_true_eq] at h; omega
  ·rw [List.filter_congr (q := fun x => decide (f < x.2 /\ x.2 <= t) && decide (((x.2 - (f + 1)) % 16) < ((m + 1 : Nat) : Int))) (fun x _ => ?_)]
   rw [Bool.eq_iff_iff]; simp only [Bool.or_eq_true, Bool.and_eq_true, decide_eq_true_eq]; omega
theorem meets_all (f t : Int) (l : List Tm) (m : Nat) (hm : (m : Int) = min (t - f) 16 \/ (m = 0 /\ t <= f)) : (meets f t l m).Perm (l.filter fun x => decide (f < x.2 /\ x.2 <= t)) := by
 refine (meets_perm f t l m (by omega)).trans ?_
 rw [List.filter_congr (q := fun x => decide (f < x.2 /\ x.2 <= t)) (fun x _ => ?_)]
 rw [Bool.eq_iff_iff]; simp only [Bool.and_eq_true, decide_eq_true_eq]; omega
end W
open Go.RowKit Go.Sort
structure SortBy {α : Type} [Inhabited α] (lt : α -> α -> Bool) (l : Nat) (la lb : Array Value) (s : Nat) (sb : Array Value) (g n : Nat) (Sw : Array α -> World -> Prop) : Prop where
 size : ∀ {d W}, Sw d W -> d.size = n
 most : n <= 1000000
 inb : ∀ {d W}, Sw d W -> g < W.heap.size
 keep : ∀ {d W W' row}, Sw d W -> W.grownBy W' row -> some g ≠ row -> Sw d W'
 enters : ∀ args w, (callFunc l args).run Tryz.prog w = .ok (.enter l args) w
 less : ∀ {d W} (i j : Nat), Sw d W -> i < n -> j < n -> Calls Tryz.prog l (la ++ (#[.int .i64 i, .int .i64 j] ++ lb)) W fun e W' => e = .returned (.bool (lt d[i]! d[j]!)) /\ W.grownBy W' none
 swap : ∀ {d W} (i j : Nat), Sw d W -> i < n -> j < n -> ∃ W', (callFunc s (#[.int .i64 i, .int .i64 j] ++ sb)).run Tryz.prog W = .ok (.value (.tuple #[])) W' /\ Sw (swp d i j) W' /\ W.grownBy W' (some g)
variable {α : Type} [Inhabited α] {lt : α -> α -> Bool} {l : Nat} {la lb : Array Value} {s : Nat} {sb : Array Value} {g n : Nat} {Sw : Array α -> World -> Prop}
theorem SortBy.lesses (S : SortBy lt l la lb s sb g n Sw) {d : Array α} {W : World} (i j : Nat) (h : Sw d W) (hi : i < n) (hj : j < n) {p : Bool} (hp : lt d[i]! d[j]! = p) :
  Calls Tryz.prog l (la ++ (#[.int .i64 i, .int .i64 j] ++ lb)) W fun e W' => e = .returned (.bool p) /\ Hid (Sw d W') /\ Hid (W.grownBy W' none) :=
 (S.less i j h hi hj).mono fun _ _ ⟨he, hg⟩ => ⟨by rw [he, hp], Zh (S.keep h hg (by simp)), Zh hg⟩
theorem Blok.at0 {W : World} {b : Nat} {t : TypeId} {x y : Value} (h : Blok W b t #[x, y]) : W.cell? ⟨b, 0, none⟩ = some x := h.cell 0
theorem Blok.at1 {W : World} {b : Nat} {t : TypeId} {x y : Value} (h : Blok W b t #[x, y]) : W.cell? ⟨b, 1, none⟩ = some y := h.cell 1
theorem zac {a b : World} {row : Option Nat} (h : a.grownBy b none) : a.grownBy b row := ⟨h.os, h.tape, h.output, h.size, fun i hi _ => h.block i hi (by simp)⟩
theorem zae (w : World) (b i : Nat) (u : Value) : w.grownBy (w.setCell ⟨b, i, none⟩ u) (some b) :=
 ⟨rfl, rfl, rfl, by simp, fun k _ hk => Below.heap_setCell w ⟨b, i, none⟩ u k (fun e => hk (by simp [e]))⟩
open Go.RowKit Go.Sort
variable {α : Type} [Inhabited α] {lt : α -> α -> Bool} {l : Nat} {la lb : Array Value} {s : Nat} {sb : Array Value} {g n : Nat} {Sw : Array α -> World -> Prop}
theorem zkf (S : SortBy lt l la lb s sb g n Sw) (a b : Nat) (d : Array α) (w : World) (hab : a <= b) (hb : b <= n) (h : Sw d w) :
  Calls Tryz.prog 245 #[.agg #[.func (.func l) la lb, .func (.func s) #[] sb], .int .i64 a, .int .i64 b] w fun e w' => e = .returned (.tuple #[]) /\ Hid (Sw (insertionSort lt d a b) w') /\ Hid (w.grownBy w' (some g)) := by
 have hm := S.most
 have hgw := S.inb h
 have BX : Hid (Blok (w.alloc (.cells #[.func (.func l) la lb, .func (.func s) #[] sb] 228)) w.heap.size 228 #[.func (.func l) la lb, .func (.func s) #[] sb]) := Zh (Blok.new _ _ _)
 have GX : Hid (w.grownBy (w.alloc (.cells #[.func (.func l) la lb, .func (.func s) #[] sb] 228)) none) := Zh (World.grownBy_alloc _ _ _)
 have H1 := Zh (S.keep h GX.out (by simp))
 have SS := Zh S
 clear h S
 go_enter Tryz.func245, Tryz.ntmps245
 go_wp2_with fail
 go_loopw [6] (fun i wr => ∃ (k : Nat) (dk : Array α), i = .int .i64 k /\ a < k /\ k <= b + 1 /\ Hid (insOuter lt a b k dk = insertionSort lt d a b) /\ Hid (Sw dk wr) /\ Hid (Blok wr w.heap.size 228 #[.func (.func l) la lb, .func (.func s) #[] sb]) /\ Hid (w.grownBy wr (some g))) (fun i _ => b + 1 - (intOf i).toNat)
 case atStart => exact ⟨a + 1, d, by go_num, by omega, by omega, Zh rfl, H1, BX, Zh (zac GX.out)⟩
 case round =>
  obtain ⟨k, dk, rfl, hak, hkb, HO, HS, HB, HG⟩ := hrel
  by_cases hlt : k < b
  ·have d1 : decide ((k : Int) < b) = true := by simp; omega
   go_wp2_with fail
   go_loopw [7] (fun i wr2 => ∃ (j : Nat) (dj : Array α), i = .int .i64 j /\ a <= j /\ j <= k /\ Hid (insInner lt a j dj = insInner lt a k dk) /\ Hid (Sw dj wr2) /\ Hid (Blok wr2 w.heap.size 228 #[.func (.func l) la lb, .func (.func s) #[] sb]) /\ Hid (w.grownBy wr2 (some g))) (fun i _ => (intOf i).toNat)
   case atStart => exact ⟨k, dk, rfl, by omega, by omega, Zh rfl, HS, HB, HG⟩
   case round =>
    obtain ⟨j, dj, rfl, haj, hjk, HI, HSj, HBj, HGj⟩ := hrel
    have c0 := HBj.out.at0
    have c1 := HBj.out.at1
    have OUT : (j <= a \/ lt dj[j]! dj[j - 1]! = false) -> insOuter lt a b (k + 1) dj = insertionSort lt d a b := fun h => by
     rw [<- HO.out, insOuter_go lt a b k dk hlt, <- HI.out, insInner_stop lt a j dj h]
    by_cases hja : a < j
    ·have d2 : decide ((a : Int) < j) = true := by simp; omega
     obtain ⟨p, hp⟩ : ∃ p, lt dj[j]! dj[j - 1]! = p := ⟨_, rfl⟩
     have hl := SS.out.lesses j (j - 1) HSj.out (by omega) (by omega) hp
     rw [show (((j - 1 : Nat) : Int)) = (j : Int) - 1 by omega] at hl
     have eg := SS.out.enters
     have HP := Zh hp
     have OU := Zh OUT
     clear hp OUT
     go_wp2_with fail
     refine hl.mono ?_
     rintro e w3 ⟨rfl, HS3, HG3⟩
     clear hl
     have HG4 := Zh (HGj.out.trans (zac HG3.out))
     have HB4 := Zh (HBj.out.grown HG3.out (by simp))
     clear c0 c1
     have c0 := HB4.out.at0
     have c1 := HB4.out.at1
     cases p with
     | false =>
      go_wp2
      go_roundw
      case rel => exact ⟨k + 1, dj, by go_num, by omega, by omega, Zh (OU.out (.inr HP.out)), HS3, HB4, HG4⟩
      case measure => simp [intOf]; omega
     | true =>
      obtain ⟨w5, hr, HS5, HG5⟩ := SS.out.swap j (j - 1) HS3.out (by omega) (by omega)
      rw [show (((j - 1 : Nat) : Int)) = (j : Int) - 1 by omega] at hr
      have HS5 := Zh HS5
      have HG6 := Zh (HG4.out.trans HG5)
      have HB6 := Zh (HB4.out.grown HG5 (by simp; omega))
      clear HG5
      go_wp2
      go_roundw
      case rel => exact ⟨j - 1, swp dj j (j - 1), by go_num, by omega, by omega, Zh (by rw [<- HI.out, insInner_go lt a j dj hja HP.out]), HS5, HB6, HG6⟩
      case measure => simp [intOf]; omega
    ·have d2 : decide ((a : Int) < j) = false := by simp; omega
     have OU := Zh (OUT (.inl (by omega)))
     clear OUT
     go_wp2
     go_roundw
     case rel => exact ⟨k + 1, dj, by go_num, by omega, by omega, OU, HSj, HBj, HGj⟩
     case measure => simp [intOf]; omega
  ·have d1 : decide ((k : Int) < b) = false := by simp; omega
   have HE : Hid (dk = insertionSort lt d a b) := Zh (by rw [<- HO.out, insOuter_stop lt a b k dk hlt])
   go_wp2
   go_end0
   exact ⟨rfl, Zh (by rw [<- HE.out]; exact HS.out), HG⟩
open Go.RowKit Go.Sort
variable {α : Type} [Inhabited α] {lt : α -> α -> Bool} {l : Nat} {la lb : Array Value} {s : Nat} {sb : Array Value} {g n : Nat} {Sw : Array α -> World -> Prop}
theorem zc0 (S : SortBy lt l la lb s sb g n Sw) (a b q pb x y z : Nat) (d : Array α) (w : World) (ha : a < n) (hb : b < n) (hq : q <= 1000) (h : Sw d w) (hp : Blok w pb 3 #[.int .i64 q]) (hg : pb ≠ g) (hr : order2 lt d a b q = (x, y, z)) :
  Calls Tryz.prog 268 #[.agg #[.func (.func l) la lb, .func (.func s) #[] sb], .int .i64 a, .int .i64 b, .pointer (some ⟨pb, 0, none⟩)] w fun e w' => e = .returned (.tuple #[.int .i64 x, .int .i64 y]) /\ Hid (Sw d w') /\ Hid (Blok w' pb 3 #[.int .i64 z]) /\ Hid (w.grownBy w' (some pb)) := by
 have hgw := S.inb h
 have hpw := hp.lt
 have BX : Hid (Blok (w.alloc (.cells #[.func (.func l) la lb, .func (.func s) #[] sb] 228)) w.heap.size 228 #[.func (.func l) la lb, .func (.func s) #[] sb]) := Zh (Blok.new _ _ _)
 have GX : Hid (w.grownBy (w.alloc (.cells #[.func (.func l) la lb, .func (.func s) #[] sb] 228)) none) := Zh (World.grownBy_alloc _ _ _)
 have H1 := Zh (S.keep h GX.out (by simp))
 have P1 := Zh (hp.grown GX.out (by simp))
 have SS := Zh S
 obtain ⟨p, hpq⟩ : ∃ p, lt d[b]! d[a]! = p := ⟨_, rfl⟩
 have hl := S.lesses b a H1.out hb ha hpq
 have eg := S.enters
 have HR : Hid (if p then x = b /\ y = a /\ z = q + 1 else x = a /\ y = b /\ z = q) := Zh (by
  unfold order2 at hr; rw [hpq] at hr; cases p <;> simp at hr ⊢ <;> omega)
 have c0 := BX.out.at0
 clear h S hp hr hpq
 go_enter Tryz.func268, Tryz.ntmps268
 go_wp2_with fail
 refine hl.mono ?_
 rintro e w3 ⟨rfl, HS3, HG3⟩
 clear hl c0
 have P3 := Zh (P1.out.grown HG3.out (by simp))
 have G3 := Zh ((zac (row := some pb) GX.out).trans (zac HG3.out))
 have f3 := P3.out.frozen 0
 have c3 := Zv P3.out 0 (.int .i64 q)
 cases p with
 | false =>
  obtain ⟨rfl, rfl, rfl⟩ := HR.out
  go_wp2
  go_ret2
  exact ⟨rfl, HS3, P3, G3⟩
 | true =>
  obtain ⟨rfl, rfl, rfl⟩ := HR.out
  have P4 : Hid (Blok (w3.setCell ⟨pb, 0, none⟩ (.int .i64 ((q : Int) + 1))) pb 3 #[.int .i64 ((q + 1 : Nat) : Int)]) := Zh (by simpa using P3.out.set 0 (.int .i64 ((q : Int) + 1)))
  have G4 : Hid (w3.grownBy (w3.setCell ⟨pb, 0, none⟩ (.int .i64 ((q : Int) + 1))) (some pb)) := Zh (zae _ _ _ _)
  have HS4 := Zh (SS.out.keep HS3.out G4.out (by simpa using Ne.symm hg))
  go_wp2
  go_ret2
  exact ⟨rfl, HS4, P4, Zh (G3.out.trans G4.out)⟩
theorem zc1 (S : SortBy lt l la lb s sb g n Sw) (a b c q pb x z : Nat) (d : Array α) (w : World) (ha : a < n) (hb : b < n) (hc : c < n) (hq : q <= 900) (h : Sw d w) (hp : Blok w pb 3 #[.int .i64 q]) (hg : pb ≠ g) (hr : median lt d a b c q = (x, z)) :
  Calls Tryz.prog 265 #[.agg #[.func (.func l) la lb, .func (.func s) #[] sb], .int .i64 a, .int .i64 b, .int .i64 c, .pointer (some ⟨pb, 0, none⟩)] w fun e w' => e = .returned (.int .i64 x) /\ Hid (Sw d w') /\ Hid (Blok w' pb 3 #[.int .i64 z]) /\ Hid (w.grownBy w' (some pb)) := by
 have hpw := hp.lt
 have BX : Hid (Blok (w.alloc (.cells #[.func (.func l) la lb, .func (.func s) #[] sb] 228)) w.heap.size 228 #[.func (.func l) la lb, .func (.func s) #[] sb]) := Zh (Blok.new _ _ _)
 have GX : Hid (w.grownBy (w.alloc (.cells #[.func (.func l) la lb, .func (.func s) #[] sb] 228)) none) := Zh (World.grownBy_alloc _ _ _)
 have H1 := Zh (S.keep h GX.out (by simp))
 have P1 := Zh (hp.grown GX.out (by simp))
 have SS := Zh S
 obtain ⟨x1, y1, z1, h1⟩ : ∃ x y z, order2 lt d a b q = (x, y, z) := ⟨_, _, _, rfl⟩
 obtain ⟨x2, y2, z2, h2⟩ : ∃ x y z, order2 lt d y1 c z1 = (x, y, z) := ⟨_, _, _, rfl⟩
 obtain ⟨x3, y3, z3, h3⟩ : ∃ x y z, order2 lt d x1 x2 z2 = (x, y, z) := ⟨_, _, _, rfl⟩
 have m1 := order2_mem lt d a b q
 have m2 := order2_mem lt d y1 c z1
 have k1 := order2_count lt d a b q
 have k2 := order2_count lt d y1 c z1
 rw [h1] at m1 k1
 rw [h2] at m2 k2
 have HR : Hid (x = y3 /\ z = z3) := Zh (by
  simp only [median, h1, h2, h3, Prod.mk.injEq] at hr
  exact ⟨hr.1.symm, hr.2.symm⟩)
 obtain ⟨rfl, rfl⟩ := HR.out
 have HM : Hid (x1 < n /\ y1 < n /\ x2 < n /\ z1 <= 1000 /\ z2 <= 1000) := Zh (by simp only at m1 m2 k1 k2; omega)
 have O1 := Zh h1
 have O2 := Zh h2
 have O3 := Zh h3
 have c0 := BX.out.at0
 have c1 := BX.out.at1
 clear h S hp hr h1 h2 h3 m1 m2 k1 k2
 go_enter Tryz.func265, Tryz.ntmps265
 go_wp2_with fail
 refine (zc0 SS.out a b q pb x1 y1 z1 d _ ha hb (by omega) H1.out P1.out hg O1.out).mono ?_
 rintro e w3 ⟨rfl, HS3, P3, G3⟩
 have B3 := Zh (BX.out.grown G3.out (by simp; omega))
 clear c0 c1
 have c0 := B3.out.at0
 have c1 := B3.out.at1
 go_wp2_with fail
 refine (zc0 SS.out y1 c z1 pb x2 y2 z2 d _ HM.out.2.1 hc HM.out.2.2.2.1 HS3.out P3.out hg O2.out).mono ?_
 rintro e w4 ⟨rfl, HS4, P4, G4⟩
 have B4 := Zh (B3.out.grown G4.out (by simp; omega))
 clear c0 c1
 have c0 := B4.out.at0
 have c1 := B4.out.at1
 go_wp2_with fail
 refine (zc0 SS.out x1 x2 z2 pb x3 x z d _ HM.out.1 HM.out.2.2.1 HM.out.2.2.2.2 HS4.out P4.out hg O3.out).mono ?_
 rintro e w5 ⟨rfl, HS5, P5, G5⟩
 go_wp2
 go_ret
 exact ⟨rfl, HS5, P5, Zh ((((zac GX.out).trans G3.out).trans G4.out).trans G5.out)⟩
theorem zb2 (S : SortBy lt l la lb s sb g n Sw) (a q pb x z : Nat) (d : Array α) (w : World) (ha : 1 <= a) (hb : a + 1 < n) (hq : q <= 900) (h : Sw d w) (hp : Blok w pb 3 #[.int .i64 q]) (hg : pb ≠ g) (hr : medianAdjacent lt d a q = (x, z)) :
  Calls Tryz.prog 264 #[.agg #[.func (.func l) la lb, .func (.func s) #[] sb], .int .i64 a, .pointer (some ⟨pb, 0, none⟩)] w fun e w' => e = .returned (.int .i64 x) /\ Hid (Sw d w') /\ Hid (Blok w' pb 3 #[.int .i64 z]) /\ Hid (w.grownBy w' (some pb)) := by
 have hm := S.most
 have BX : Hid (Blok (w.alloc (.cells #[.func (.func l) la lb, .func (.func s) #[] sb] 228)) w.heap.size 228 #[.func (.func l) la lb, .func (.func s) #[] sb]) := Zh (Blok.new _ _ _)
 have GX : Hid (w.grownBy (w.alloc (.cells #[.func (.func l) la lb, .func (.func s) #[] sb] 228)) none) := Zh (World.grownBy_alloc _ _ _)
 have H1 := Zh (S.keep h GX.out (by simp))
 have P1 := Zh (hp.grown GX.out (by simp))
 have hc := zc1 S (a - 1) a (a + 1) q pb x z d _ (by omega) (by omega) hb hq H1.out P1.out hg hr
 rw [show ((a - 1 : Nat) : Int) = (a : Int) - 1 by omega, show ((a + 1 : Nat) : Int) = (a : Int) + 1 by omega] at hc
 have c0 := BX.out.at0
 have c1 := BX.out.at1
 clear h S hp hr
 go_enter Tryz.func264, Tryz.ntmps264
 go_wp2_with fail
 refine hc.mono ?_
 rintro e w3 ⟨rfl, HS3, P3, G3⟩
 go_wp2
 go_ret
 exact ⟨rfl, HS3, P3, Zh ((zac GX.out).trans G3.out)⟩
open Go.RowKit Go.Sort
variable {α : Type} [Inhabited α] {lt : α -> α -> Bool} {l : Nat} {la lb : Array Value} {s : Nat} {sb : Array Value} {g n : Nat} {Sw : Array α -> World -> Prop}
def kid (lt : α -> α -> Bool) (hi first root : Nat) (d : Array α) : Nat := if 2 * root + 1 + 1 < hi && lt d[first + (2 * root + 1)]! d[first + (2 * root + 1) + 1]! then 2 * root + 2 else 2 * root + 1
theorem ze1 {hi first root : Nat} {d : Array α} (h : ¬ 2 * root + 2 < hi \/ lt d[first + (2 * root + 1)]! d[first + (2 * root + 2)]! = false) : kid lt hi first root d = 2 * root + 1 := by
 unfold kid
 rcases h with h | h
 ·rw [if_neg (by simp; omega)]
 ·rw [if_neg (by rw [show first + (2 * root + 1) + 1 = first + (2 * root + 2) by omega, h]; simp)]
theorem ziz {hi first root : Nat} {d : Array α} (h : 2 * root + 2 < hi) (h2 : lt d[first + (2 * root + 1)]! d[first + (2 * root + 2)]! = true) : kid lt hi first root d = 2 * root + 2 := by
 unfold kid
 rw [if_pos (by rw [show first + (2 * root + 1) + 1 = first + (2 * root + 2) by omega, h2]; simp; omega)]
theorem zkg {hi first root : Nat} {d : Array α} (h : ¬ 2 * root + 1 < hi) : siftDown lt hi first root d = d := by rw [siftDown]; simp [show 2 * root + 1 ≥ hi by omega]
theorem zdq {hi first root c : Nat} {d : Array α} (h : 2 * root + 1 < hi) (hc : kid lt hi first root d = c) (h2 : lt d[first + root]! d[first + c]! = false) : siftDown lt hi first root d = d := by
 rw [siftDown, dif_neg (by omega)]
 unfold kid at hc
 split at hc
 ·rename_i h3; subst hc; rw [if_pos h3, if_pos (by simp [h2])]
 ·rename_i h3; subst hc; rw [if_neg h3, if_pos (by simp [h2])]
theorem zge {hi first root c : Nat} {d : Array α} (h : 2 * root + 1 < hi) (hc : kid lt hi first root d = c) (h2 : lt d[first + root]! d[first + c]! = true) : siftDown lt hi first root d = siftDown lt hi first c (swp d (first + root) (first + c)) := by
 rw [siftDown, dif_neg (by omega)]
 unfold kid at hc
 split at hc
 ·rename_i h3; subst hc; rw [if_pos h3, if_neg (by simp [h2]), dif_pos (by simp at h3; omega)]
 ·rename_i h3; subst hc; rw [if_neg h3, if_neg (by simp [h2])]
theorem zgz (S : SortBy lt l la lb s sb g n Sw) (lo hi first : Nat) (d : Array α) (w : World) (hn : first + hi <= n) (hlo : lo <= hi) (h : Sw d w) :
  Calls Tryz.prog 261 #[.agg #[.func (.func l) la lb, .func (.func s) #[] sb], .int .i64 lo, .int .i64 hi, .int .i64 first] w fun e w' => e = .returned (.tuple #[]) /\ Hid (Sw (siftDown lt hi first lo d) w') /\ Hid (w.grownBy w' (some g)) := by
 have BX : Hid (Blok (w.alloc (.cells #[.func (.func l) la lb, .func (.func s) #[] sb] 228)) w.heap.size 228 #[.func (.func l) la lb, .func (.func s) #[] sb]) := Zh (Blok.new _ _ _)
 have GX : Hid (w.grownBy (w.alloc (.cells #[.func (.func l) la lb, .func (.func s) #[] sb] 228)) none) := Zh (World.grownBy_alloc _ _ _)
 have H1 := Zh (S.keep h GX.out (by simp))
 have SS := Zh S
 have hm := S.most
 have hgw := S.inb h
 have eg := S.enters
 clear h S
 go_enter Tryz.func261, Tryz.ntmps261
 go_wp2_with fail
 go_loopw [8] (fun i wr => ∃ (r : Nat) (dk : Array α), i = .int .i64 r /\ r <= hi /\ Hid (siftDown lt hi first r dk = siftDown lt hi first lo d) /\ Hid (Sw dk wr) /\ Hid (Blok wr w.heap.size 228 #[.func (.func l) la lb, .func (.func s) #[] sb]) /\ Hid (w.grownBy wr (some g))) (fun i _ => hi - (intOf i).toNat)
 case atStart => exact ⟨lo, d, by go_num, by omega, Zh rfl, H1, BX, Zh (zac GX.out)⟩
 case round =>
  obtain ⟨r, dk, rfl, hrh, HO, HS, HB, HG⟩ := hrel
  by_cases hlt : 2 * r + 1 < hi
  ·have d1 : decide ((hi : Int) <= 2 * (r : Int) + 1) = false := by simp; omega
   by_cases hl2 : 2 * r + 2 < hi
   ·have d2 : decide (2 * (r : Int) + 1 + 1 < (hi : Int)) = true := by simp; omega
    obtain ⟨p, hp⟩ : ∃ p, lt dk[first + (2 * r + 1)]! dk[first + (2 * r + 2)]! = p := ⟨_, rfl⟩
    have hl := SS.out.lesses (first + (2 * r + 1)) (first + (2 * r + 2)) HS.out (by omega) (by omega) hp
    rw [show ((first + (2 * r + 1) : Nat) : Int) = (first : Int) + (2 * r + 1) by omega, show ((first + (2 * r + 2) : Nat) : Int) = (first : Int) + (2 * r + 1) + 1 by omega] at hl
    have HP := Zh hp
    clear hp
    have c0 := HB.out.at0
    go_wp2_with fail
    refine hl.mono ?_
    rintro e w3 ⟨rfl, HS3, HG3⟩
    clear hl c0
    have HG4 := Zh (HG.out.trans (zac HG3.out))
    have HB4 := Zh (HB.out.grown HG3.out (by simp))
    have HS4 := HS3
    cases p with
    | false =>
     obtain ⟨p2, hp2⟩ : ∃ p, lt dk[first + r]! dk[first + (2 * r + 1)]! = p := ⟨_, rfl⟩
     have hl2 := SS.out.lesses (first + r) (first + (2 * r + 1)) HS4.out (by omega) (by omega) hp2
     rw [show ((first + r : Nat) : Int) = (first : Int) + r by omega, show ((first + (2 * r + 1) : Nat) : Int) = (first : Int) + (2 * r + 1) by omega] at hl2
     have HP2 := Zh hp2
     clear hp2
     have c0 := HB4.out.at0
     go_wp2_with fail
     refine hl2.mono ?_
     rintro e w5 ⟨rfl, HS5, HG5⟩
     clear hl2 c0
     have HG6 := Zh (HG4.out.trans (zac HG5.out))
     have HB6 := Zh (HB4.out.grown HG5.out (by simp))
     have c1 := HB6.out.at1
     cases p2 with
     | false =>
      have HE : Hid (dk = siftDown lt hi first lo d) := Zh (by rw [<- HO.out, zdq hlt (ze1 (.inr HP.out)) HP2.out])
      go_wp2
      refine bodyPost_ret (results_none rfl _ _ _) rfl ?_
      exact ⟨rfl, Zh (by rw [<- HE.out]; exact HS5.out), HG6⟩
     | true =>
      obtain ⟨w7, hr, HS7, HG7⟩ := SS.out.swap (first + r) (first + (2 * r + 1)) HS5.out (by omega) (by omega)
      rw [show ((first + r : Nat) : Int) = (first : Int) + r by omega, show ((first + (2 * r + 1) : Nat) : Int) = (first : Int) + (2 * r + 1) by omega] at hr
      have HS7 := Zh HS7
      have HG8 := Zh (HG6.out.trans HG7)
      have HB8 := Zh (HB6.out.grown HG7 (by simp; omega))
      clear HG7
      go_wp2
      go_roundw
      case rel => exact ⟨2 * r + 1, swp dk (first + r) (first + (2 * r + 1)), by go_num, by omega, Zh (by rw [<- HO.out, zge hlt (ze1 (.inr HP.out)) HP2.out]), HS7, HB8, HG8⟩
      case measure => simp [intOf]; omega
    | true =>
     obtain ⟨p2, hp2⟩ : ∃ p, lt dk[first + r]! dk[first + (2 * r + 2)]! = p := ⟨_, rfl⟩
     have hl2 := SS.out.lesses (first + r) (first + (2 * r + 2)) HS4.out (by omega) (by omega) hp2
     rw [show ((first + r : Nat) : Int) = (first : Int) + r by omega, show ((first + (2 * r + 2) : Nat) : Int) = (first : Int) + (2 * r + 1 + 1) by omega] at hl2
     have HP2 := Zh hp2
     clear hp2
     have c0 := HB4.out.at0
     go_wp2_with fail
     refine hl2.mono ?_
     rintro e w5 ⟨rfl, HS5, HG5⟩
     clear hl2 c0
     have HG6 := Zh (HG4.out.trans (zac HG5.out))
     have HB6 := Zh (HB4.out.grown HG5.out (by simp))
     have c1 := HB6.out.at1
     cases p2 with
     | false =>
      have HE : Hid (dk = siftDown lt hi first lo d) := Zh (by rw [<- HO.out, zdq hlt (ziz hl2 HP.out) HP2.out])
      go_wp2
      refine bodyPost_ret (results_none rfl _ _ _) rfl ?_
      exact ⟨rfl, Zh (by rw [<- HE.out]; exact HS5.out), HG6⟩
     | true =>
      obtain ⟨w7, hr, HS7, HG7⟩ := SS.out.swap (first + r) (first + (2 * r + 2)) HS5.out (by omega) (by omega)
      rw [show ((first + r : Nat) : Int) = (first : Int) + r by omega, show ((first + (2 * r + 2) : Nat) : Int) = (first : Int) + (2 * r + 1 + 1) by omega] at hr
      have HS7 := Zh HS7
      have HG8 := Zh (HG6.out.trans HG7)
      have HB8 := Zh (HB6.out.grown HG7 (by simp; omega))
      clear HG7
      go_wp2
      go_roundw
      case rel => exact ⟨2 * r + 2, swp dk (first + r) (first + (2 * r + 2)), by go_num, by omega, Zh (by rw [<- HO.out, zge hlt (ziz hl2 HP.out) HP2.out]), HS7, HB8, HG8⟩
      case measure => simp [intOf]; omega
   ·have d2 : decide (2 * (r : Int) + 1 + 1 < (hi : Int)) = false := by simp; omega
    obtain ⟨p2, hp2⟩ : ∃ p, lt dk[first + r]! dk[first + (2 * r + 1)]! = p := ⟨_, rfl⟩
    have hl2 := SS.out.lesses (first + r) (first + (2 * r + 1)) HS.out (by omega) (by omega) hp2
    rw [show ((first + r : Nat) : Int) = (first : Int) + r by omega, show ((first + (2 * r + 1) : Nat) : Int) = (first : Int) + (2 * r + 1) by omega] at hl2
    have HP2 := Zh hp2
    clear hp2
    have c0 := HB.out.at0
    go_wp2_with fail
    refine hl2.mono ?_
    rintro e w5 ⟨rfl, HS5, HG5⟩
    clear hl2 c0
    have HG6 := Zh (HG.out.trans (zac HG5.out))
    have HB6 := Zh (HB.out.grown HG5.out (by simp))
    have c1 := HB6.out.at1
    cases p2 with
    | false =>
     have HE : Hid (dk = siftDown lt hi first lo d) := Zh (by rw [<- HO.out, zdq hlt (ze1 (.inl hl2)) HP2.out])
     go_wp2
     refine bodyPost_ret (results_none rfl _ _ _) rfl ?_
     exact ⟨rfl, Zh (by rw [<- HE.out]; exact HS5.out), HG6⟩
    | true =>
     obtain ⟨w7, hr, HS7, HG7⟩ := SS.out.swap (first + r) (first + (2 * r + 1)) HS5.out (by omega) (by omega)
     rw [show ((first + r : Nat) : Int) = (first : Int) + r by omega, show ((first + (2 * r + 1) : Nat) : Int) = (first : Int) + (2 * r + 1) by omega] at hr
     have HS7 := Zh HS7
     have HG8 := Zh (HG6.out.trans HG7)
     have HB8 := Zh (HB6.out.grown HG7 (by simp; omega))
     clear HG7
     go_wp2
     go_roundw
     case rel => exact ⟨2 * r + 1, swp dk (first + r) (first + (2 * r + 1)), by go_num, by omega, Zh (by rw [<- HO.out, zge hlt (ze1 (.inl hl2)) HP2.out]), HS7, HB8, HG8⟩
     case measure => simp [intOf]; omega
  ·have d1 : decide ((hi : Int) <= 2 * (r : Int) + 1) = true := by simp; omega
   have HE : Hid (dk = siftDown lt hi first lo d) := Zh (by rw [<- HO.out, zkg hlt])
   go_wp2
   go_end0
   exact ⟨rfl, Zh (by rw [<- HE.out]; exact HS.out), HG⟩
theorem zkh (S : SortBy lt l la lb s sb g n Sw) (a b : Nat) (d : Array α) (w : World) (hab : a < b) (hb : b <= n) (h : Sw d w) :
  Calls Tryz.prog 246 #[.agg #[.func (.func l) la lb, .func (.func s) #[] sb], .int .i64 a, .int .i64 b] w fun e w' => e = .returned (.tuple #[]) /\ Hid (Sw (heapSort lt d a b) w') /\ Hid (w.grownBy w' (some g)) := by
 have BX : Hid (Blok (w.alloc (.cells #[.func (.func l) la lb, .func (.func s) #[] sb] 228)) w.heap.size 228 #[.func (.func l) la lb, .func (.func s) #[] sb]) := Zh (Blok.new _ _ _)
 have GX : Hid (w.grownBy (w.alloc (.cells #[.func (.func l) la lb, .func (.func s) #[] sb] 228)) none) := Zh (World.grownBy_alloc _ _ _)
 have H1 := Zh (S.keep h GX.out (by simp))
 have SS := Zh S
 have hm := S.most
 have hgw := S.inb h
 have eg := S.enters
 clear h S
 obtain ⟨hi, hhi⟩ : ∃ hi, b = a + hi := ⟨b - a, by omega⟩
 have hw : (b : Int) - (a : Int) = (hi : Int) := by omega
 have h0 : 0 < hi := by omega
 have hnn : a + hi <= n := by omega
 have HH := Zh hhi
 clear hhi
 go_enter Tryz.func246, Tryz.ntmps246
 go_wp2_with fail
 go_loopw [9] (fun i wr => ∃ (k : Nat) (dk : Array α), i = .int .i64 ((k : Int) - 1) /\ k <= hi /\ Hid (heapBuild lt hi a k dk = heapBuild lt hi a ((hi - 1) / 2 + 1) d) /\ Hid (Sw dk wr) /\ Hid (Blok wr w.heap.size 228 #[.func (.func l) la lb, .func (.func s) #[] sb]) /\ Hid (w.grownBy wr (some g))) (fun i _ => (intOf i + 1).toNat)
 case atStart => exact ⟨(hi - 1) / 2 + 1, d, by go_num, by omega, Zh rfl, H1, BX, Zh (zac GX.out)⟩
 case round =>
  obtain ⟨k, dk, rfl, hkh, HO, HS, HB, HG⟩ := hrel
  have c0 := HB.out.at0
  have c1 := HB.out.at1
  cases k with
  | succ k =>
   have e1 : ((k + 1 : Nat) : Int) - 1 = k := by omega
   rw [e1]
   have hc := zgz SS.out k hi a dk wr (by omega) (by omega) HS.out
   go_wp2_with fail
   refine hc.mono ?_
   rintro e w3 ⟨rfl, HS3, HG3⟩
   have HB3 := Zh (HB.out.grown HG3.out (by simp; omega))
   have HG4 := Zh (HG.out.trans HG3.out)
   clear hc c0 c1
   go_wp2
   go_roundw
   case rel => exact ⟨k, siftDown lt hi a k dk, by go_num, by omega, Zh (by rw [<- HO.out]; rfl), HS3, HB3, HG4⟩
   case measure => simp [intOf] <;> omega
  | zero =>
   rw [show ((0 : Nat) : Int) - 1 = -1 from rfl]
   have HD : Hid (heapPop lt a hi dk = heapSort lt d a b) := Zh (by
    unfold heapSort
    rw [show b - a = hi by have := HH.out; omega, <- HO.out]; rfl)
   clear HO
   go_wp2_with fail
   go_loopw [10] (fun i wr => ∃ (k : Nat) (dk : Array α), i = .int .i64 ((k : Int) - 1) /\ k <= hi /\ Hid (heapPop lt a k dk = heapSort lt d a b) /\ Hid (Sw dk wr) /\ Hid (Blok wr w.heap.size 228 #[.func (.func l) la lb, .func (.func s) #[] sb]) /\ Hid (w.grownBy wr (some g))) (fun i _ => (intOf i + 1).toNat)
   case atStart => exact ⟨hi, dk, by go_num, by omega, HD, HS, HB, HG⟩
   case round =>
    obtain ⟨k, dj, rfl, hkh, HOj, HSj, HBj, HGj⟩ := hrel
    clear c0 c1
    have c0 := HBj.out.at0
    have c1 := HBj.out.at1
    cases k with
    | succ k =>
     have e1 : ((k + 1 : Nat) : Int) - 1 = k := by omega
     rw [e1]
     obtain ⟨w7, hr, HS7, HG7⟩ := SS.out.swap a (a + k) HSj.out (by omega) (by omega)
     rw [show ((a + k : Nat) : Int) = (a : Int) + k by omega] at hr
     have HG8 := Zh (HGj.out.trans HG7)
     have HB8 := Zh (HBj.out.grown HG7 (by simp; omega))
     have d0 := HB8.out.at0
     have d1 := HB8.out.at1
     have hc := zgz SS.out 0 k a (swp dj a (a + k)) w7 (by omega) (by omega) HS7
     clear HG7 HS7
     go_wp2_with fail
     refine hc.mono ?_
     rintro e w3 ⟨rfl, HS3, HG3⟩
     have HB3 := Zh (HB8.out.grown HG3.out (by simp; omega))
     have HG4 := Zh (HG8.out.trans HG3.out)
     clear hc c0 c1 d0 d1 hr
     go_wp2
     go_roundw
     case rel => exact ⟨k, siftDown lt k a 0 (swp dj a (a + k)), by go_num, by omega, Zh (by rw [<- HOj.out]; rfl), HS3, HB3, HG4⟩
     case measure => simp [intOf] <;> omega
    | zero =>
     have HE : Hid (dj = heapSort lt d a b) := HOj
     go_wp2
     go_end0
     exact ⟨rfl, Zh (by rw [<- HE.out]; exact HSj.out), HGj⟩
open Go.RowKit Go.Sort
variable {α : Type} [Inhabited α] {lt : α -> α -> Bool} {l : Nat} {la lb : Array Value} {s : Nat} {sb : Array Value} {g n : Nat} {Sw : Array α -> World -> Prop}
theorem zhf {i j : Nat} {d : Array α} (h : i < j) : reverseLoop i j d = reverseLoop (i + 1) (j - 1) (swp d i j) := by rw [reverseLoop, if_pos h]
theorem zgf {i j : Nat} {d : Array α} (h : ¬ i < j) : reverseLoop i j d = d := by rw [reverseLoop, if_neg h]
theorem zgg (S : SortBy lt l la lb s sb g n Sw) (a b : Nat) (d : Array α) (w : World) (hab : a < b) (hb : b <= n) (h : Sw d w) :
  Calls Tryz.prog 249 #[.agg #[.func (.func l) la lb, .func (.func s) #[] sb], .int .i64 a, .int .i64 b] w fun e w' => e = .returned (.tuple #[]) /\ Hid (Sw (reverseRange d a b) w') /\ Hid (w.grownBy w' (some g)) := by
 have BX : Hid (Blok (w.alloc (.cells #[.func (.func l) la lb, .func (.func s) #[] sb] 228)) w.heap.size 228 #[.func (.func l) la lb, .func (.func s) #[] sb]) := Zh (Blok.new _ _ _)
 have GX : Hid (w.grownBy (w.alloc (.cells #[.func (.func l) la lb, .func (.func s) #[] sb] 228)) none) := Zh (World.grownBy_alloc _ _ _)
 have H1 := Zh (S.keep h GX.out (by simp))
 have SS := Zh S
 have hm := S.most
 have hgw := S.inb h
 clear h S
 go_enter Tryz.func249, Tryz.ntmps249
 go_wp2_with fail
 go_loopw [6, 7] (fun i j wr => ∃ (x y : Nat) (dk : Array α), i = .int .i64 x /\ j = .int .i64 y /\ x <= y + 1 /\ y < b /\ Hid (reverseLoop x y dk = reverseRange d a b) /\ Hid (Sw dk wr) /\ Hid (Blok wr w.heap.size 228 #[.func (.func l) la lb, .func (.func s) #[] sb]) /\ Hid (w.grownBy wr (some g))) (fun i j _ => (intOf j + 1 - intOf i).toNat)
 case atStart => exact ⟨a, b - 1, d, by go_num, by go_num, by omega, by omega, Zh rfl, H1, BX, Zh (zac GX.out)⟩
 case round =>
  obtain ⟨x, y, dk, rfl, rfl, hxy, hyb, HO, HS, HB, HG⟩ := hrel
  by_cases hlt : x < y
  ·have d1 : decide ((x : Int) < y) = true := by simp; omega
   obtain ⟨w7, hr, HS7, HG7⟩ := SS.out.swap x y HS.out (by omega) (by omega)
   have HS7 := Zh HS7
   have HG8 := Zh (HG.out.trans HG7)
   have HB8 := Zh (HB.out.grown HG7 (by simp; omega))
   have c1 := HB.out.at1
   clear HG7
   go_wp2
   go_roundw
   case rel => exact ⟨x + 1, y - 1, swp dk x y, by go_num, by go_num, by omega, by omega, Zh (by rw [<- HO.out, zhf hlt]), HS7, HB8, HG8⟩
   case measure => simp [intOf] <;> omega
  ·have d1 : decide ((x : Int) < y) = false := by simp; omega
   have HE : Hid (dk = reverseRange d a b) := Zh (by rw [<- HO.out, zgf hlt])
   go_wp2
   go_end0
   exact ⟨rfl, Zh (by rw [<- HE.out]; exact HS.out), HG⟩
end Go.Proofs.YtonejangijkdmaaGreat
