import Derived.Test.YtnbkkjcmblfhpaaGreatProg
import Derived.WalkKit
import Derived.OwnWalk
import Derived.LoopTactic
import Derived.WalkSpells
import Derived.Maps.AppendAt
import Derived.Lib.Hide
import Derived.Outline
import Derived.WalkMore
import Derived.OpenShut
import Derived.Deep.LoopGhost
import Derived.BigQuiet
import Derived.Deep.QuietTactic
import Derived.Laws.AppendOwnNone
import Derived.Laws.BytesString
import Derived.RangeFuncRecord
import Derived.OrdersHeld
import Derived.Deep.OwnRows
import Derived.Laws.Rows
import Derived.RangeFuncBox
import Derived.Deep.RegionWith
namespace Go.Proofs.YtnbkkjcmblfhpaaGreat
namespace D
abbrev F := Int × List Int × Int
abbrev T := Int × List F
def used (l : List F) : Nat := (l.map (fun f => f.2.1.length)).sum
def fine (f : F) : Prop := 1 <= f.1 /\ f.1 <= 1073741824 /\ 0 <= f.2.2 /\ f.2.2 <= (f.2.1.length : Int)
instance (f : F) : Decidable (fine f) := inferInstanceAs (Decidable (_ /\ _ /\ _ /\ _))
def sorted (l : List F) : Prop := l.Pairwise (fun f g => f.1 < g.1)
instance (l : List F) : Decidable (sorted l) := inferInstanceAs (Decidable (List.Pairwise _ l))
def may (d : T) : Prop := (0 <= d.1 /\ d.1 <= 65536 /\ d.2.length <= 12) /\ (∀ f ∈ d.2, fine f) /\ sorted d.2 /\ (used d.2 : Int) <= d.1
instance (d : T) : Decidable (may d) := inferInstanceAs (Decidable (_ /\ _ /\ _ /\ _))
def small (l : List F) : Prop := l.length <= 14 /\ ∀ f ∈ l, f.2.1.length <= 70000
theorem used_cons (f : F) (l : List F) : used (f :: l) = f.2.1.length + used l := by simp [used]
theorem used_append (l m : List F) : used (l ++ m) = used l + used m := by simp [used]
def chk : Int -> Int -> List F -> Bool
 | _, _, [] => true
 | a, r, f :: l => decide (1 <= f.1 /\ f.1 <= 1073741824 /\ a < f.1 /\ 0 <= f.2.2 /\ f.2.2 <= (f.2.1.length : Int) /\ (f.2.1.length : Int) <= r) && chk f.1 (r - f.2.1.length) l
def row : Int -> List F -> Bool
 | _, [] => true
 | a, f :: l => decide (1 <= f.1 /\ f.1 <= 1073741824 /\ a < f.1 /\ 0 <= f.2.2 /\ f.2.2 <= (f.2.1.length : Int)) && row f.1 l
theorem row_iff : ∀ (l : List F) (a : Int), row a l = true ↔ (∀ f ∈ l, fine f /\ a < f.1) /\ sorted l
 | [], a => by simp [row, sorted]
 | f :: l, a => by
  rw [row, Bool.and_eq_true, decide_eq_true_iff, row_iff l f.1]
  constructor
  ·rintro ⟨h1, h2, h3⟩
   refine ⟨?_, List.pairwise_cons.2 ⟨fun g hg => (h2 g hg).2, h3⟩⟩
   intro g hg
   rcases List.mem_cons.1 hg with rfl | hg
   ·exact ⟨⟨h1.1, h1.2.1, h1.2.2.2.1, h1.2.2.2.2⟩, h1.2.2.1⟩
   ·exact ⟨(h2 g hg).1, Int.lt_trans h1.2.2.1 (h2 g hg).2⟩
  ·rintro ⟨h1, h2⟩
   have h3 := List.pairwise_cons.1 h2
   have h4 := h1 f (by simp)
   exact ⟨⟨h4.1.1, h4.1.2.1, h4.2, h4.1.2.2.1, h4.1.2.2.2⟩, fun g hg => ⟨(h1 g (by simp [hg])).1, h3.1 g hg⟩, h3.2⟩
theorem chk_row : ∀ (l : List F) (a r : Int), 0 <= r -> chk a r l = (row a l && decide ((used l : Int) <= r))
 | [], a, r, h => by simp [chk, row, used, h]
 | f :: l, a, r, h => by
  rw [chk, row, used_cons]
  by_cases hr : (f.2.1.length : Int) <= r
  ·rw [chk_row l f.1 (r - f.2.1.length) (by omega)]
   have e1 : decide ((used l : Int) <= r - f.2.1.length) = decide (((f.2.1.length + used l : Nat) : Int) <= r) := by
    rw [Bool.eq_iff_iff, decide_eq_true_iff, decide_eq_true_iff]; omega
   rw [e1, <- Bool.and_assoc]
   congr 2
   rw [Bool.eq_iff_iff, decide_eq_true_iff, decide_eq_true_iff]
   exact ⟨fun h => ⟨h.1, h.2.1, h.2.2.1, h.2.2.2.1, h.2.2.2.2.1⟩, fun h => ⟨h.1, h.2.1, h.2.2.1, h.2.2.2.1, h.2.2.2.2, hr⟩⟩
  ·have e1 : decide (((f.2.1.length + used l : Nat) : Int) <= r) = false := decide_eq_false (by omega)
   have e2 : decide (1 <= f.1 /\ f.1 <= 1073741824 /\ a < f.1 /\ 0 <= f.2.2 /\ f.2.2 <= (f.2.1.length : Int) /\ (f.2.1.length : Int) <= r) = false := decide_eq_false (by omega)
   rw [e1, e2]; simp
theorem row_zero (l : List F) : row 0 l = true ↔ (∀ f ∈ l, fine f) /\ sorted l := by
 rw [row_iff]
 exact ⟨fun h => ⟨fun f hf => (h.1 f hf).1, h.2⟩, fun h => ⟨fun f hf => ⟨h.1 f hf, by have := (h.1 f hf).1; omega⟩, h.2⟩⟩
theorem may_row (d : T) : may d ↔ (0 <= d.1 /\ d.1 <= 65536 /\ d.2.length <= 12) /\ row 0 d.2 = true /\ (used d.2 : Int) <= d.1 := by
 unfold may
 rw [row_zero]
 simp only [and_assoc]
theorem may_chk (d : T) : may d ↔ (0 <= d.1 /\ d.1 <= 65536 /\ d.2.length <= 12) /\ chk 0 d.1 d.2 = true := by
 rw [may_row]
 constructor
 ·rintro ⟨h1, h2, h3⟩
  exact ⟨h1, by rw [chk_row _ _ _ h1.1, h2]; simp [h3]⟩
 ·rintro ⟨h1, h2⟩
  rw [chk_row _ _ _ h1.1, Bool.and_eq_true, decide_eq_true_iff] at h2
  exact ⟨h1, h2.1, h2.2⟩
def nof : F := (0, [], 0)
def idx (l : List F) (no : Int) : Option Nat := l.findIdx? (fun f => decide (f.1 = no))
def find (d : T) (no : Int) : Int := if may d then (match idx d.2 no with | some i => (i : Int) | none => -1) else -1
theorem idx_some {l : List F} {no : Int} {i : Nat} (h : idx l no = some i) : i < l.length /\ (l.getD i nof).1 = no := by
 unfold idx at h
 rw [List.findIdx?_eq_some_iff_getElem] at h
 obtain ⟨h1, h2, _⟩ := h
 exact ⟨h1, by simpa [List.getD_eq_getElem?_getD, h1] using h2⟩
theorem idx_none {l : List F} {no : Int} (h : idx l no = none) : ∀ f ∈ l, f.1 ≠ no := by
 unfold idx at h
 rw [List.findIdx?_eq_none_iff] at h
 intro f hf
 simpa using h f hf
def isPlace (l : List F) (no : Int) (p : Nat) : Prop := p <= l.length /\ (∀ k, k < p -> (l.getD k nof).1 < no) /\ (∀ k, p <= k -> k < l.length -> no <= (l.getD k nof).1)
theorem getD_lt {l : List F} {k : Nat} (h : k < l.length) : l.getD k nof = l[k] := by simp [h]
theorem sorted_lt {l : List F} (h : sorted l) {i j : Nat} (hij : i < j) (hj : j < l.length) : (l.getD i nof).1 < (l.getD j nof).1 := by
 rw [getD_lt (by omega), getD_lt hj]
 exact List.pairwise_iff_getElem.1 h i j (by omega) hj hij
theorem idx_place {l : List F} {no : Int} {p : Nat} (hs : sorted l) (h : isPlace l no p) : idx l no = if p < l.length /\ (l.getD p nof).1 = no then some p else none := by
 split
 ·rename_i hp
  unfold idx
  rw [List.findIdx?_eq_some_iff_getElem]
  refine ⟨hp.1, by have := hp.2; rw [getD_lt hp.1] at this; simpa using this, fun j hj => ?_⟩
  have := h.2.1 j hj
  rw [getD_lt (by omega)] at this
  simp; omega
 ·rename_i hp
  unfold idx
  rw [List.findIdx?_eq_none_iff]
  intro f hf
  obtain ⟨k, hk, rfl⟩ := List.mem_iff_getElem.1 hf
  simp only [decide_eq_false_iff_not]
  intro he
  rw [<- getD_lt hk] at he
  by_cases h1 : k < p
  ·have := h.2.1 k h1; omega
  ·by_cases h2 : k = p
   ·subst h2; exact hp ⟨hk, he⟩
   ·have h3 := sorted_lt hs (show p < k by omega) hk
    have h4 := h.2.2 p (Nat.le_refl _) (by omega)
    omega
theorem take_place {l : List F} {no : Int} {p : Nat} (h : isPlace l no p) (hn : idx l no = none) : l.filter (fun f => decide (f.1 < no)) = l.take p /\ l.filter (fun f => decide (no < f.1)) = l.drop p := by
 have h1 : ∀ f ∈ l.take p, f.1 < no := fun f hf => by
  obtain ⟨k, hk, rfl⟩ := List.mem_iff_getElem.1 hf
  have hk' : k < p /\ k < l.length := by simp at hk; omega
  have := h.2.1 k hk'.1
  rw [getD_lt hk'.2] at this
  simpa [List.getElem_take] using this
 have h2 : ∀ f ∈ l.drop p, no < f.1 := fun f hf => by
  have hne := idx_none hn f (List.mem_of_mem_drop hf)
  obtain ⟨k, hk, rfl⟩ := List.mem_iff_getElem.1 hf
  have hk' : p + k < l.length := by simp at hk; omega
  have := h.2.2 (p + k) (by omega) hk'
  rw [getD_lt hk'] at this
  simp only [List.getElem_drop] at hne ⊢
  omega
 constructor
 ·conv => lhs; rw [<- List.take_append_drop p l]
  rw [List.filter_append, List.filter_eq_self.2 (fun f hf => by simpa using h1 f hf), List.filter_eq_nil_iff.2 (fun f hf => by have := h2 f hf; simp; omega)]
  simp
 ·conv => lhs; rw [<- List.take_append_drop p l]
  rw [List.filter_append, List.filter_eq_nil_iff.2 (fun f hf => by have := h1 f hf; simp; omega), List.filter_eq_self.2 (fun f hf => by simpa using h2 f hf)]
  simp
def upd (d : T) (no : Int) (g : F -> Int × F) : T × Int :=
 if may d then (match idx d.2 no with
  | none => (d, 5)
  | some i => if (g (d.2.getD i nof)).1 = 0 then ((d.1, d.2.set i (g (d.2.getD i nof)).2), 0) else (d, (g (d.2.getD i nof)).1))
 else (d, 1)
theorem upd_ok {d : T} {no : Int} {g : F -> Int × F} {j : Nat} {f y : F} (hm : may d) (hj : idx d.2 no = some j) (hf : d.2.getD j nof = f) (hg : g f = (0, y)) : upd d no g = ((d.1, d.2.set j y), 0) := by
 unfold upd
 rw [if_pos hm, hj]
 simp only [hf, hg]
 rfl
theorem upd_err {d : T} {no : Int} {g : F -> Int × F} {j : Nat} {f y : F} {e : Int} (hm : may d) (hj : idx d.2 no = some j) (hf : d.2.getD j nof = f) (hg : g f = (e, y)) (he : e ≠ 0) : upd d no g = (d, e) := by
 unfold upd
 rw [if_pos hm, hj]
 simp only [hf, hg]
 rw [if_neg he]
def write (d : T) (no : Int) (b : List Int) : T × Int := upd d no fun f => if d.1 < ((used d.2 + b.length : Nat) : Int) then (9, f) else (0, f.1, f.2.1 ++ b, f.2.2)
def sync (d : T) (no : Int) : T × Int := upd d no fun f => (0, f.1, f.2.1, (f.2.1.length : Int))
def cut (d : T) (no n : Int) : T × Int := upd d no fun f => if n < 0 \/ (f.2.1.length : Int) < n then (1, f) else (0, f.1, f.2.1.take n.toNat, n)
def drop (d : T) (no : Int) : T × Int :=
 if may d then (match idx d.2 no with | none => (d, 5) | some i => ((d.1, d.2.take i ++ d.2.drop (i + 1)), 0)) else (d, 1)
def make (d : T) (no : Int) : T × Int :=
 if may d /\ 1 <= no /\ no <= 1073741824 then
  (if (idx d.2 no).isSome then (d, 11) else if d.2.length = 12 then (d, 9) else ((d.1, d.2.filter (fun f => decide (f.1 < no)) ++ (no, [], 0) :: d.2.filter (fun f => decide (no < f.1))), 0))
 else (d, 1)
def tear (c : Int) : Int := ((c.toNat ^^^ 165 : Nat) : Int)
def torn (b : List Int) (from_ : Nat) : List Int := b.mapIdx fun i c => if from_ <= i /\ b.length <= i + 8 then tear c else c
def kept (keep : Int) (loose : Nat) : Nat := if keep < 0 then 0 else if (loose : Int) < keep then loose else keep.toNat
def left (f : F) (keep : Int) : List Int := f.2.1.take (f.2.2.toNat + kept keep (f.2.1.length - f.2.2.toNat))
def after (f : F) (keep tearing : Int) : F := (f.1, (if tearing % 2 = 0 then left f keep else torn (left f keep) f.2.2.toNat), ((left f keep).length : Int))
def crashed : List F -> List Int -> List F
 | [], _ => []
 | f :: l, ps => if f.2.2 = (f.2.1.length : Int) then f :: crashed l ps else after f (ps.getD 0 0) (ps.getD 1 0) :: crashed l (ps.drop 2)
def crash (d : T) (ps : List Int) : T := if may d then (d.1, crashed d.2 ps) else d
def op (k no n : Int) (b ps : List Int) (d : T) : T × Int :=
 if k = 0 then make d no else if k = 1 then write d no b else if k = 2 then sync d no else if k = 3 then cut d no n else if k = 4 then drop d no else (crash d ps, 0)
end D
end Go.Proofs.YtnbkkjcmblfhpaaGreat
namespace Go.Proofs.YtnbkkjcmblfhpaaGreat.M
def puts (n : Nat) : List Int :=
 if n < 128 then [(n : Int)] else ((n % 128 + 128 : Nat) : Int) :: puts (n / 128)
termination_by n
decreasing_by omega
theorem puts_lt {n : Nat} (h : n < 128) : puts n = [(n : Int)] := by rw [puts, if_pos h]
theorem puts_ge {n : Nat} (h : 128 <= n) : puts n = ((n % 128 + 128 : Nat) : Int) :: puts (n / 128) := by rw [puts, if_neg (by omega)]
theorem puts_pos (n : Nat) : 0 < (puts n).length := by
 by_cases h : n < 128
 ·simp [puts_lt h]
 ·simp [puts_ge (Nat.le_of_not_lt h)]
theorem puts_len_le : ∀ (k n : Nat), n < 128 ^ (k + 1) -> (puts n).length <= k + 1
 | 0, n, h => by rw [puts_lt (by simpa using h)]; simp
 | k + 1, n, h => by
  by_cases h1 : n < 128
  ·simp [puts_lt h1]
  ·rw [puts_ge (by omega)]
   have := puts_len_le k (n / 128) (by rw [Nat.pow_succ] at h; omega)
   simp; omega
theorem puts_len6 {n : Nat} (h : n <= 1099511627776) : (puts n).length <= 6 := puts_len_le 5 n (by omega)
theorem zty : ∀ (k m n : Nat), m <= k -> m <= n -> (puts m).length <= (puts n).length
 | k, m, n, hk, h => by
  by_cases h1 : m < 128
  ·have := puts_pos n; simp [puts_lt h1]; omega
  ·rw [puts_ge (by omega), puts_ge (by omega : 128 <= n)]
   match k, hk with
   | k + 1, hk =>
    have := zty k (m / 128) (n / 128) (by omega) (by omega)
    simp; omega
   | 0, hk => omega
theorem puts_byte : ∀ (k n : Nat), n <= k -> ∀ c ∈ puts n, 0 <= c /\ c <= 255
 | k, n, hk => by
  by_cases h1 : n < 128
  ·rw [puts_lt h1]; intro c hc; simp at hc; omega
  ·rw [puts_ge (by omega)]
   intro c hc
   rcases List.mem_cons.1 hc with rfl | hc
   ·omega
   ·match k, hk with
    | k + 1, hk => exact puts_byte k (n / 128) (by omega) c hc
    | 0, hk => omega
def put (n : Int) : List Int := if 0 <= n /\ n <= 1099511627776 then puts n.toNat else []
theorem put_yes {n : Int} (h0 : 0 <= n) (h1 : n <= 1099511627776) : put n = puts n.toNat := by rw [put, if_pos ⟨h0, h1⟩]
theorem put_no {n : Int} (h : ¬ (0 <= n /\ n <= 1099511627776)) : put n = [] := by rw [put, if_neg h]
theorem put_len6 (n : Int) : (put n).length <= 6 := by
 unfold put; split
 ·exact puts_len6 (by omega)
 ·simp
theorem put_pos_iff (n : Int) : 0 < (put n).length ↔ (0 <= n /\ n <= 1099511627776) := by
 unfold put; split
 ·next h => exact ⟨fun _ => h, fun _ => puts_pos _⟩
 ·next h => simp [h]
def dig : Nat -> Bool -> Int -> Int -> List Int -> Option (Int × Nat)
 | 0, _, _, _, _ => none
 | _ + 1, _, _, _, [] => none
 | k + 1, first, acc, unit, c :: r =>
  if 128 <= c then (dig k false (acc + c % 128 * unit) (unit * 128) r).map fun p => (p.1, p.2 + 1)
  else if (c = 0 /\ first = false) \/ 1099511627776 < acc + c % 128 * unit then none
  else some (acc + c % 128 * unit, 1)
def head (b : List Int) : Option (Int × Nat) := dig 6 true 0 1 b
def get (b : List Int) (p : Int) : Int × Int :=
 if p < 0 then (0, -1) else match head (b.drop p.toNat) with
  | none => (0, -1)
  | some (n, e) => (n, p + e)
theorem dig_sound : ∀ (k : Nat) (first : Bool) (acc unit : Int) (b : List Int) (n : Int) (e : Nat), 0 < unit -> 0 <= acc -> (∀ c ∈ b, 0 <= c /\ c <= 255) -> dig k first acc unit b = some (n, e) ->
  ∃ m : Nat, n = acc + m * unit /\ b.take e = puts m /\ e = (puts m).length /\ e <= b.length /\ (first = false -> 0 < m) /\ 0 <= n /\ n <= 1099511627776
 | 0, _, _, _, _, _, _, _, _, _, h => by simp [dig] at h
 | _ + 1, _, _, _, [], _, _, _, _, _, h => by simp [dig] at h
 | k + 1, first, acc, unit, c :: r, n, e, hu, ha, hb, h => by
  have hc := hb c (by simp)
  unfold dig at h
  split at h
  ·next hge =>
   rw [Option.map_eq_some_iff] at h
   obtain ⟨⟨n', e'⟩, h', heq⟩ := h
   simp at heq
   obtain ⟨rfl, rfl⟩ := heq
   have hp : 0 <= c % 128 * unit := Int.mul_nonneg (by omega) (by omega)
   obtain ⟨m, hn, ht, hl, hle, hpos, h0, h1⟩ := dig_sound k false _ _ r n' e' (by omega) (by omega) (fun x hx => hb x (by simp [hx])) h'
   have hm := hpos rfl
   refine ⟨(c.toNat - 128) + 128 * m, ?_, ?_, ?_, by simp; omega, fun _ => by omega, h0, h1⟩
   ·rw [hn]
    have hcast : (((c.toNat - 128) + 128 * m : Nat) : Int) = c % 128 + 128 * m := by omega
    rw [hcast, Int.add_mul, Int.mul_assoc, Int.mul_comm 128, Int.mul_assoc, Int.add_assoc]
   ·rw [puts_ge (by omega), List.take_succ_cons, ht]
    congr 1
    ·omega
    ·congr 1; omega
   ·rw [puts_ge (by omega)]
    have : (c.toNat - 128 + 128 * m) / 128 = m := by omega
    rw [this, hl]; simp
  ·next hlt =>
   split at h
   ·cases h
   ·next hno =>
    simp at h
    obtain ⟨rfl, rfl⟩ := h
    have hcm : c % 128 = c := by omega
    rw [hcm] at hno ⊢
    have hp : 0 <= c * unit := Int.mul_nonneg (by omega) (by omega)
    refine ⟨c.toNat, by rw [show ((c.toNat : Nat) : Int) = c by omega], ?_, ?_, by simp, fun hf => ?_, by omega, by omega⟩
    ·rw [puts_lt (by omega)]; simp; omega
    ·rw [puts_lt (by omega)]; simp
    ·by_cases h0 : c = 0
     ·exact absurd (.inl ⟨h0, hf⟩) hno
     ·omega
theorem dig_puts : ∀ (k m : Nat) (first : Bool) (acc unit : Int) (r : List Int), m < 128 ^ k -> 0 < k -> 0 < unit -> 0 <= acc -> (first = false -> 0 < m) -> acc + m * unit <= 1099511627776 ->
  dig k first acc unit (puts m ++ r) = some (acc + m * unit, (puts m).length)
 | 0, m, _, _, _, _, h, hk, _, _, hf, hle => by omega
 | k + 1, m, first, acc, unit, r, h, _, hu, ha, hf, hle => by
  by_cases h1 : m < 128
  ·rw [puts_lt h1]
   have hcm : (m : Int) % 128 = m := by omega
   simp only [List.singleton_append, dig, hcm]
   rw [if_neg (by omega), if_neg]
   ·simp
   ·rintro (⟨h0, hf'⟩ | hgt)
    ·have := hf hf'; omega
    ·omega
  ·rw [puts_ge (by omega)]
   simp only [List.cons_append, dig]
   rw [if_pos (by omega)]
   have hmod : (((m % 128 + 128 : Nat) : Int)) % 128 = ((m % 128 : Nat) : Int) := by omega
   rw [hmod]
   have hsum : acc + ((m % 128 : Nat) : Int) * unit + ((m / 128 : Nat) : Int) * (unit * 128) = acc + m * unit := by
    have : (m : Int) = ((m % 128 : Nat) : Int) + 128 * ((m / 128 : Nat) : Int) := by omega
    conv => rhs; rw [this]
    rw [Int.add_mul, Int.mul_comm unit 128, <- Int.mul_assoc, Int.mul_comm _ (128 : Int), Int.add_assoc]
   have hp : 0 <= ((m % 128 : Nat) : Int) * unit := Int.mul_nonneg (by omega) (by omega)
   rw [dig_puts k (m / 128) false _ _ r (by rw [Nat.pow_succ] at h; omega) (by cases k with | zero => (simp at h; omega) | succ k => omega) (by omega) (by omega) (fun _ => by omega) (by rw [hsum]; exact hle)]
   rw [hsum]; simp
end Go.Proofs.YtnbkkjcmblfhpaaGreat.M
namespace Go.Proofs.YtnbkkjcmblfhpaaGreat
open Go.RowKit
theorem tk {P : Program} {md : Region.Mode} {ops : Array Oper} {Q : Exit -> Act -> World -> Prop} {S : World -> Prop} (i : Nat) (v : Value) {oi : Oper} {fuel : Nat} {listed : Array Bool} {a : Act} {w : World} (hS : S w)
  (h : wpAnyH P md ops Q S fuel (listed.setIfInBounds i true) (a.put oi.dst v) w) (hi : ops[i]? = some oi := by exact rfl) (hs : Region.noSelect ops = true := by kernel_rfl) (hf : Region.free md ops listed i = true := by kernel_rfl)
  (hr : (Region.ready md ops listed).contains i = true := by kernel_rfl) (hQ : ∀ c a w, Q (.panic c) (a.put oi.dst v) w -> Q (.panic c) a w := by exact fun _ _ _ h => h)
  (hy : YieldsIf P ops S oi v a := by exact .inl ⟨by kernel_rfl, fun w9 hS => by kernel_rfl⟩) : wpAnyH P md ops Q S (fuel + 1) listed a w := wpAnyH_take hi hs hf hr hQ hy hS h
theorem tko {P : Program} {md : Region.Mode} {ops : Array Oper} {Q : Exit -> Act -> World -> Prop} {S : World -> Prop} (i : Nat) {oi : Oper} {fuel : Nat} {listed : Array Bool} {a : Act} {w : World} (hS : S w)
  (h : wpAnyH P md ops Q S fuel (listed.setIfInBounds i true) (a.put oi.dst undef) w) (hi : ops[i]? = some oi := by exact rfl) (hs : Region.noSelect ops = true := by kernel_rfl) (hf : Region.free md ops listed i = true := by kernel_rfl)
  (hr : (Region.ready md ops listed).contains i = true := by kernel_rfl) (hQ : ∀ c a w, Q (.panic c) (a.put oi.dst undef) w -> Q (.panic c) a w := by exact fun _ _ _ h => h)
  (hy : YieldsIf P ops S oi undef a := by exact .inr ⟨by kernel_rfl, rfl⟩) : wpAnyH P md ops Q S (fuel + 1) listed a w := wpAnyH_take hi hs hf hr hQ hy hS h
theorem zrf : (Tryz.prog.info? 5).map (fun i => (i.zero, i.size, i.bytes)) = some (some (.int .u8 0), 1, 1) := by kernel_rfl
theorem zl3 : (Tryz.prog.info? 3).map (fun i => (i.zero, i.size, i.bytes)) = some (some (.int .i64 0), 1, 8) := by kernel_rfl
theorem zng {w wr w1 : World} {B e size n : Nat} {v : Value} {xs : List Value} {tmp : Obj} (hown : wr.ownsRow B e size v n xs) (hBw : B <= wr.heap.size) (hB : Below B w wr) (hgrow : (wr.alloc tmp).grownBy w1 v.ownBlock) : Below B w w1 :=
 (hB.alloc hBw tmp).grown hgrow (by simp; omega) fun k ek => (hown.lt k ek).1
theorem znq {w wr w1 : World} {B e size n : Nat} {v : Value} {xs : List Value} (hown : wr.ownsRow B e size v n xs) (hBw : B <= wr.heap.size) (hB : Below B w wr) (hgrow : wr.grownBy w1 v.ownBlock) : Below B w w1 :=
 hB.grown hgrow hBw fun k ek => (hown.lt k ek).1
def zsp (k : IntKind) (w : World) (a : Option Addr) (len cap : Nat) (zs : List Int) : Prop :=
 (a = none /\ len = 0 /\ cap = 0 /\ zs = []) \/
 ∃ x, a = some x /\ len <= cap /\ cap <= maxLen /\ zs.length = cap /\ (∀ i, i < zs.length -> w.cell? (x.add i) = some (.int k (zs.getD i 0))) /\ ∀ n ∈ zs, (Lit.int k n).wf = true
theorem znz {zs : List Int} {len k : Nat} (hk : k < len) (hz : len <= zs.length) : (zs.take len).drop k = zs.getD k 0 :: (zs.take len).drop (k + 1) := by
 have h1 : k < (zs.take len).length := by simp; omega
 rw [List.drop_eq_getElem_cons h1]
 congr 1
 have h2 : k < zs.length := by omega
 simp [List.getElem_take, h2]
def zfv (k : IntKind) (w : World) (a : Option Addr) (cap : Nat) (L : List Int) : Prop :=
 (L.length <= cap /\ cap <= maxLen) /\ (∀ n ∈ L, (Lit.int k n).wf = true) /\
 (L = [] \/ ∃ b off, a = some ⟨b, off, none⟩ /\ b < w.heap.size /\ ∀ i, i < L.length -> w.cell? ⟨b, off + i, none⟩ = some (.int k (L.getD i 0)))
theorem zsp.rowIn {k : IntKind} {w : World} {a : Option Addr} {len cap : Nat} {zs : List Int} (h : zsp k w a len cap zs) : zfv k w a cap (zs.take len) /\ (zs.take len).length = len := by
 rcases h with ⟨rfl, rfl, rfl, rfl⟩ | ⟨x, rfl, hl, hm, hz, hc, hw⟩
 ·exact ⟨⟨⟨by simp, by simp [maxLen]⟩, by simp, .inl rfl⟩, rfl⟩
 ·have hlen : (zs.take len).length = len := by simp; omega
  refine ⟨⟨⟨by omega, hm⟩, fun n hn => hw n (List.mem_of_mem_take hn), ?_⟩, hlen⟩
  by_cases h0 : len = 0
  ·exact .inl (by simp [h0])
  ·obtain ⟨b, off, rfl, hc'⟩ := ints_at hc (by omega)
   refine .inr ⟨b, off, rfl, World.block_lt_of_cell? (a := ⟨b, off + 0, none⟩) _ (hc' 0 (by omega)), fun i hi => ?_⟩
   rw [hc' i (by omega)]
   congr 2
   simp [show i < len by omega]
theorem zfv.below {k : IntKind} {w w' : World} {a : Option Addr} {cap : Nat} {L : List Int} (h : zfv k w a cap L) (hb : Below w.heap.size w w') : zfv k w' a cap L := by
 refine ⟨h.1, h.2.1, ?_⟩
 rcases h.2.2 with h0 | ⟨b, off, rfl, hlt, hc⟩
 ·exact .inl h0
 ·exact .inr ⟨b, off, rfl, Nat.lt_of_lt_of_le hlt hb.size, fun i hi => (hb.cell (p := ⟨b, off + i, none⟩) hlt).trans (hc i hi)⟩
theorem zfv.belowN {k : IntKind} {B : Nat} {w w' : World} {a : Option Addr} {cap : Nat} {L : List Int} (h : zfv k w a cap L) (hB : w.heap.size <= B) (hb : Below B w w') : zfv k w' a cap L := h.below (hb.mono hB)
theorem zab {w w' : World} {B e sz n : Nat} {v : Value} {xs : List Value} (h : w.ownsRow B e sz v n xs) (hb : Below w.heap.size w w') : w'.ownsRow B e sz v n xs := by
 refine ⟨h.1, ?_⟩
 rcases h.2 with hn | ⟨g, cap, cur, rfl, hb', hgg, rest⟩
 ·exact .inl hn
 ·exact .inr ⟨g, cap, cur, rfl, hb', (hb.block g (Array.getElem?_eq_some_iff.1 hgg).1).trans hgg, rest⟩
theorem zex {k : IntKind} {w : World} {B e n : Nat} {v : Value} {L : List Int} (h : w.ownsRow B e 1 v n (L.map (Value.int k))) (hw : ∀ n ∈ L, (Lit.int k n).wf = true) : ∃ a cap, v = .slice a n cap /\ n = L.length /\ zfv k w a cap L := by
 have hn : L.length = n := by simpa using h.1
 rcases h.2 with ⟨rfl, rfl⟩ | ⟨g, cap, cur, rfl, _, hgg, hle, hm, hsz, htake⟩
 ·have : L = [] := List.eq_nil_of_length_eq_zero hn
  subst this
  exact ⟨none, 0, rfl, rfl, ⟨by simp, by simp [maxLen]⟩, by simp, .inl rfl⟩
 ·refine ⟨_, cap, rfl, hn.symm, ⟨by omega, hm⟩, hw, .inr ⟨g, 0, rfl, (Array.getElem?_eq_some_iff.1 hgg).1, fun i hi => ?_⟩⟩
  have hc := h.cells (g := g) rfl i (.int k (L.getD i 0)) (by simp [hi])
  rw [WideShapes.add_plain] at hc
  exact hc
theorem zpm {w : World} {B e n : Nat} {v : Value} {xs : List Value} (h : w.ownsRow B e 1 v n xs) (hn : 0 < n) : ∃ g cap, v = .slice (some ⟨g, 0, none⟩) n cap := by
 rcases h.2 with ⟨_, h0⟩ | ⟨g, cap, _, rfl, _⟩
 ·omega
 ·exact ⟨g, cap, rfl⟩
theorem zoh (k : IntKind) (L : List Int) : ∀ u ∈ L.map (Value.int k), u.oneCell' = true := by
 intro u hu
 obtain ⟨n, _, rfl⟩ := List.mem_map.1 hu
 rfl
theorem zm9 {w : World} {B e n : Nat} {v : Value} {xs : List Value} (h : w.ownsRow B e 1 v n xs) : ∃ a cap, v = .slice a n cap := by
 rcases h.2 with ⟨rfl, rfl⟩ | ⟨g, cap, _, rfl, _⟩
 ·exact ⟨_, _, rfl⟩
 ·exact ⟨_, _, rfl⟩
theorem zad (B : Nat) (w : World) : ∀ n, Below B w (w.drewN n)
 | 0 => Below.refl _ _
 | n + 1 => by
  have := zad B w n
  exact ⟨this.os, this.tape, this.output, this.size, this.block⟩
theorem zan {w : World} {B B' e sz n : Nat} {v : Value} {xs : List Value} (h : w.ownsRow B e sz v n xs) (hB : B' <= B) : w.ownsRow B' e sz v n xs := by
 refine ⟨h.1, ?_⟩
 rcases h.2 with hn | ⟨g, cap, cur, rfl, hb, rest⟩
 ·exact .inl hn
 ·exact .inr ⟨g, cap, cur, rfl, Nat.le_trans hB hb, rest⟩
theorem zn3 {w : World} {B cap : Nat} {a : Option Addr} {xs : List Int} {k : IntKind} {e n : Nat} (h : w.ownsRow B e 1 (.slice a n cap) n (xs.map (Value.int k))) (hw : ∀ n ∈ xs, (Lit.int k n).wf = true) : zfv k w a cap xs := by
 obtain ⟨a', c, he, _, hr⟩ := zex h hw
 simp at he
 obtain ⟨rfl, rfl⟩ := he
 exact hr
theorem zo9 {L : List Int} (h : ∀ n ∈ L, (Lit.int .u8 n).wf = true) : ∀ c ∈ L, 0 <= c /\ c <= 255 := fun c hc => bounds_u8 (h c hc)
theorem znf {P : Program} (w : World) {ops : Array Oper} {rest : List Oper} {o : Oper} {a : Act} {Q : Exit -> Act -> World -> Prop} (hgd : o.guard = none) (s x : Operand) (t : TypeId)
  (ho : o.op = .call { callee := .builtin .append, args := #[s, x], argTypes := #[t, t] })
  (base : Nat) (e : TypeId) (i : TypeInfo) (z : Value) (bytes : Nat) (ht : P.underlying t = some (.slice e)) (hi : P.info? e = some i) (hz : i.zero = some z)
  (hsize : i.size = 1) (hby : i.bytes = bytes) (hzs : z.cells.size = 1)
  (v : Value) (n : Nat) (xs : List Value) (hs : a.eval s = v) (hown : w.ownsRow base e 1 v n xs)
  (k : IntKind) (ad : Option Addr) (m c : Nat) (L : List Int) (hx : a.eval x = .slice ad m c) (hr : zfv k w ad c L) (hm : L.length = m) (hc0 : ad = none -> m = 0 /\ c = 0)
  (h63 : n + m <= maxLen) (hbytes : (n + m) * bytes <= 140737488355328) (hbase : base <= w.heap.size)
  (h : ∀ v' w', w'.ownsRow base e 1 v' (n + m) (xs ++ L.map (Value.int k)) -> w.grownBy w' v.ownBlock -> wpList P ops Q rest (a.put o.dst v') w') : wpList P ops Q (o :: rest) a w := by
 cases ad with
 | none =>
  obtain ⟨rfl, rfl⟩ := hc0 rfl
  obtain rfl : L = [] := List.eq_nil_of_length_eq_zero hm
  exact wpList_append_own_none hgd s x t ho base e i 1 ht hi v n xs hs hown hx (h v w (by simpa using hown) ⟨rfl, rfl, rfl, Nat.le_refl _, fun _ _ _ => rfl⟩)
 | some ad =>
  refine wpList_append_own w hgd s x t ho base e i z 1 bytes ht hi hz hsize hby hzs (by decide) v n xs hs hown ad m c (L.map (Value.int k)) hx (by simp [hm]) (fun j u hj => ?_) (zoh k L) h63 hbytes hbase (fun v' w' h1 h2 _ => h v' w' h1 h2)
  rcases hr.2.2 with rfl | ⟨b, off, he, _, hc⟩
  ·simp at hj
  ·cases he
   obtain ⟨hj', hv⟩ := List.getElem?_eq_some_iff.1 hj
   rw [WideShapes.add_plain, hc j (by simpa using hj')]
   rw [<- hv]
   simp at hj'
   simp [hj']
theorem zsq {k : IntKind} {w : World} {B e n : Nat} {v : Value} {L : List Int} (h : w.ownsRow B e 1 v n (L.map (Value.int k))) (hw : ∀ n ∈ L, (Lit.int k n).wf = true) : ∃ a cap, v = .slice a n cap /\ zfv k w a cap L := by
 obtain ⟨a, cap, h1, _, h2⟩ := zex h hw
 exact ⟨a, cap, h1, h2⟩
theorem zsp.nil {k : IntKind} {w : World} {a : Option Addr} {len cap : Nat} {zs : List Int} (h : zsp k w a len cap zs) : a = none -> len = 0 /\ cap = 0 := by
 rcases h with ⟨_, rfl, rfl, _⟩ | ⟨x, rfl, _⟩
 ·exact fun _ => ⟨rfl, rfl⟩
 ·intro h; cases h
def zrg (L : List Int) : ByteArray := ⟨(L.map fun n => UInt8.ofNat n.toNat).toArray⟩
theorem znr : ∀ (l : List Int) (r : ByteArray), l.foldl (fun r n => r.push (UInt8.ofNat n.toNat)) r = ⟨r.data ++ (l.map fun n => UInt8.ofNat n.toNat).toArray⟩
 | [], r => by simp
 | b :: l, r => by
  simp only [List.foldl_cons, List.map_cons]
  rw [znr l]
  simp [ByteArray.push]
theorem znu {w : World} {a : Option Addr} {n cap : Nat} {L : List Int} (h : zfv .u8 w a cap L) (hn : L.length = n) : (convert 51 9 (.slice a n cap)).run Tryz.prog w = .ok (.string (zrg L)) w := by
 rw [run_convert_bytes_string w 51 9 5 a n cap Tryz.underlying51 Tryz.underlying5 Tryz.underlying9]
 cases a with
 | none =>
  rcases h.2.2 with rfl | ⟨b, off, he, _⟩
  ·rfl
  ·cases he
 | some x =>
  have hl := run_loadCells_list (P := Tryz.prog) w x (L.map (Value.int .u8)) (fun j v hj => by
   rcases h.2.2 with rfl | ⟨b, off, he, _, hc⟩
   ·simp at hj
   ·cases he
    obtain ⟨hj', hv⟩ := List.getElem?_eq_some_iff.1 hj
    rw [WideShapes.add_plain, hc j (by simpa using hj')]
    rw [<- hv]
    simp at hj'
    simp [hj'])
  rw [List.length_map, hn] at hl
  rw [run_bytesToString w x n cap L hl, znr]
  have he0 : ByteArray.empty.data = #[] := rfl
  rw [he0]
  simp [zrg]
theorem zaa (w : World) : Below w.heap.size w w.drew := (Below.refl _ _).drew
open Go.RowKit
def Blok (w : World) (g : Nat) (t : TypeId) (cs : Array Value) : Prop := w.heap[g]? = some (.cells cs t (0, 0))
theorem Blok.lt {w : World} {g : Nat} {t : TypeId} {cs : Array Value} (h : Blok w g t cs) : g < w.heap.size := (Array.getElem?_eq_some_iff.1 h).1
theorem Blok.cell {w : World} {g : Nat} {t : TypeId} {cs : Array Value} (h : Blok w g t cs) (i : Nat) : w.cell? ⟨g, i, none⟩ = cs[i]? := cell_of_row w g i cs t (0, 0) h
theorem Blok.frozen {w : World} {g : Nat} {t : TypeId} {cs : Array Value} (h : Blok w g t cs) (i : Nat) : w.frozen? ⟨g, i, none⟩ = false := by
 have h' : w.heap[g]? = some (.cells cs t (0, 0)) := h
 simp [World.frozen?, h']
theorem Blok.new (w : World) (t : TypeId) (cs : Array Value) : Blok (w.alloc (.cells cs t)) w.heap.size t cs := World.alloc_heap_new w _
theorem Blok.alloc {w : World} {g : Nat} {t : TypeId} {cs : Array Value} (h : Blok w g t cs) (o : Obj) : Blok (w.alloc o) g t cs := (((Below.refl w.heap.size w).alloc (Nat.le_refl _) o).block g h.lt).trans h
theorem Blok.far {w : World} {g : Nat} {t : TypeId} {cs : Array Value} (h : Blok w g t cs) {p : Addr} (hp : g ≠ p.block) (u : Value) : Blok (w.setCell p u) g t cs := by
 have h' : w.heap[g]? = some (.cells cs t (0, 0)) := h
 show (w.setCell p u).heap[g]? = _
 simp [World.setCell, Array.getElem?_modify, h', Ne.symm hp]
theorem Blok.set {w : World} {g : Nat} {t : TypeId} {cs : Array Value} (h : Blok w g t cs) (i : Nat) (u : Value) : Blok (w.setCell ⟨g, i, none⟩ u) g t (cs.setIfInBounds i u) := by
 have h' : w.heap[g]? = some (.cells cs t (0, 0)) := h
 show (w.setCell ⟨g, i, none⟩ u).heap[g]? = _
 simp [World.setCell, Array.getElem?_modify, h']
theorem Blok.below {B : Nat} {w w' : World} {g : Nat} {t : TypeId} {cs : Array Value} (h : Blok w g t cs) (hb : Below B w w') (hg : g < B) : Blok w' g t cs := (hb.block g hg).trans h
theorem Blok.grown {w w' : World} {g : Nat} {t : TypeId} {cs : Array Value} {row : Option Nat} (h : Blok w g t cs) (hb : w.grownBy w' row) (hg : some g ≠ row) : Blok w' g t cs := (hb.block g h.lt hg).trans h
theorem Blok.drew {w : World} {g : Nat} {t : TypeId} {cs : Array Value} (h : Blok w g t cs) : Blok w.drew g t cs := h
theorem Blok.drewN {w : World} {g : Nat} {t : TypeId} {cs : Array Value} (h : Blok w g t cs) (n : Nat) : Blok (w.drewN n) g t cs := h
theorem Blok.row {k : IntKind} {w : World} {g cap : Nat} {t : TypeId} {L : List Int} (h : Blok w g t (L.map (Value.int k)).toArray) (hw : ∀ n ∈ L, (Lit.int k n).wf = true) (hc : L.length <= cap) (hm : cap <= maxLen) : zfv k w (some ⟨g, 0, none⟩) cap L := by
 refine ⟨⟨hc, hm⟩, hw, .inr ⟨g, 0, rfl, h.lt, fun i hi => ?_⟩⟩
 rw [Nat.zero_add, h.cell i]
 simp [hi]
theorem Blok.own {w : World} {g cap n : Nat} {t : TypeId} {xs : List Value} (h : Blok w g t xs.toArray) {B : Nat} (hB : B <= g) (hn : xs.length = n) (hc : n <= cap) (hm : cap <= maxLen) (hx : xs.length = cap) : w.ownsRow B t 1 (.slice (some ⟨g, 0, none⟩) n cap) n xs := by
 refine ⟨by omega, .inr ⟨g, cap, xs.toArray, rfl, hB, h, by omega, hm, by simp; omega, ?_⟩⟩
 simp [List.take_of_length_le (show xs.length <= n by omega)]
theorem zoj (k : IntKind) (n : Nat) : madeCells #[Value.int k 0] n = ((List.replicate n (0 : Int)).map (Value.int k)).toArray := by
 apply Array.ext'
 rw [toList_madeCells_one]
 simp
def zns (xs : List Int) (n : Nat) : List Int := xs ++ List.replicate (n - xs.length) 0
theorem zoy (n : Nat) : zns [] n = List.replicate n 0 := by simp [zns]
theorem zoz {xs : List Int} {n : Nat} (h : n <= xs.length) : zns xs n = xs := by simp [zns, show n - xs.length = 0 by omega]
theorem zo0 {xs : List Int} {n : Nat} (h : xs.length < n) (k : IntKind) (x : Int) : ((zns xs n).map (Value.int k)).toArray.setIfInBounds xs.length (.int k x) = ((zns (xs ++ [x]) n).map (Value.int k)).toArray := by
 apply Array.ext'
 obtain ⟨m, hm⟩ : ∃ m, n - xs.length = m + 1 := ⟨n - xs.length - 1, by omega⟩
 have hm' : n - (xs.length + 1) = m := by omega
 simp [zns, hm, hm', List.replicate_succ]
theorem zn2 {xs : List Int} {n j : Nat} (h : xs.length = j) (hj : j < n) (k : IntKind) : ((zns xs n).map (Value.int k)).toArray[j]? = some (.int k 0) := by
 subst h
 obtain ⟨m, hm⟩ : ∃ m, n - xs.length = m + 1 := ⟨n - xs.length - 1, by omega⟩
 simp [zns, hm, List.replicate_succ]
theorem znj {k : IntKind} {a b : Int} (h : a = b) : Ending.returned (.int k a) = .returned (.int k b) := by rw [h]
theorem zl4 {k : IntKind} {w : World} {a : Option Addr} {cap i : Nat} {L : List Int} (h : zfv k w a cap L) (hi : i < L.length) : ∃ b off, a = some ⟨b, off, none⟩ /\ b < w.heap.size /\ w.cell? ⟨b, off + i, none⟩ = some (.int k (L.getD i 0)) := by
 rcases h.2.2 with rfl | ⟨b, off, rfl, hb, hc⟩
 ·simp at hi
 ·exact ⟨b, off, rfl, hb, hc i hi⟩
theorem zup {L : List Int} {k : Nat} (hk : k < L.length) : L.take (k + 1) = L.take k ++ [L.getD k 0] := by
 rw [List.take_succ_eq_append_getElem hk]; simp [hk]
theorem zfv.take {k : IntKind} {w : World} {a : Option Addr} {cap : Nat} {L : List Int} (h : zfv k w a cap L) (j : Nat) : zfv k w a cap (L.take j) := by
 refine ⟨⟨?_, h.1.2⟩, fun n hn => h.2.1 n (List.mem_of_mem_take hn), ?_⟩
 ·have := h.1.1; simp; omega
 ·rcases h.2.2 with rfl | ⟨b, off, rfl, hb, hc⟩
  ·exact .inl (by simp)
  ·refine .inr ⟨b, off, rfl, hb, fun i hi => ?_⟩
   simp at hi
   rw [hc i (by omega)]
   simp [show i < L.length by omega, show i < j by omega]
theorem Zn (w : World) (t : TypeId) (cs : Array Value) : ∃ w1, w.alloc (.cells cs t) = w1 /\ Below w.heap.size w w1 /\ Blok w1 w.heap.size t cs := ⟨_, rfl, (Below.refl _ w).alloc (Nat.le_refl _) _, Blok.new w _ _⟩
theorem Zh {p : Prop} (h : p) : Hid p := Lib.hid h
theorem Zk {w w' : World} {g : Nat} {t : TypeId} {cs : Array Value} (h : Hid (Blok w g t cs)) (hb : Below w.heap.size w w') : Hid (Blok w' g t cs) := Lib.hid (h.out.below hb h.out.lt)
theorem Zt {w w1 w2 : World} (h : Hid (Below w.heap.size w w1)) (hb : Below w1.heap.size w1 w2) : Hid (Below w.heap.size w w2) := Lib.hid (h.out.trans (hb.mono h.out.size))
theorem Zr {w w1 w2 : World} (h : Below w.heap.size w w1) (hb : Below w1.heap.size w1 w2) : Below w.heap.size w w2 := h.trans (hb.mono h.size)
theorem Zl {P : Program} {md : Region.Mode} {ops : Array Oper} {Q : Exit -> Act -> World -> Prop} {S : World -> Prop} (i : Nat) (v : Value) {oi : Oper} {fuel : Nat} {listed : Array Bool} {a : Act} {w : World} (hi : ops[i]? = some oi) (hy : ∀ w, S w -> (execOp a.eval oi).run P w = .ok (.value v) w) (hS : S w)
  (h : wpAnyH P md ops Q S fuel (listed.setIfInBounds i true) (a.put oi.dst v) w) (hs : Region.noSelect ops = true := by kernel_rfl) (hf : Region.free md ops listed i = true := by kernel_rfl)
  (hr : (Region.ready md ops listed).contains i = true := by kernel_rfl) (hQ : ∀ c a w, Q (.panic c) (a.put oi.dst v) w -> Q (.panic c) a w := by exact fun _ _ _ h => h)
  (hw : Region.wanted oi (yielded ops a.tmps) = true := by kernel_rfl) : wpAnyH P md ops Q S (fuel + 1) listed a w := wpAnyH_take hi hs hf hr hQ (.inl ⟨hw, hy⟩) hS h
theorem Zq {P : Program} {md : Region.Mode} {ops : Array Oper} {Q : Exit -> Act -> World -> Prop} {S : World -> Prop} (i b o : Nat) {oi : Oper} {fuel : Nat} {listed : Array Bool} {a : Act} {w : World} (hS : S w)
  (h : wpAnyH P md ops Q S fuel (listed.setIfInBounds i true) (a.put oi.dst (.pointer (some ⟨b, o, none⟩))) w) (hi : ops[i]? = some oi := by exact rfl) (hs : Region.noSelect ops = true := by kernel_rfl) (hf : Region.free md ops listed i = true := by kernel_rfl)
  (hr : (Region.ready md ops listed).contains i = true := by kernel_rfl) (hQ : ∀ c a w, Q (.panic c) (a.put oi.dst (.pointer (some ⟨b, o, none⟩))) w -> Q (.panic c) a w := by exact fun _ _ _ h => h)
  (hy : YieldsIf P ops S oi (.pointer (some ⟨b, o, none⟩)) a := by exact .inl ⟨by kernel_rfl, fun w9 hS => by kernel_rfl⟩) : wpAnyH P md ops Q S (fuel + 1) listed a w := wpAnyH_take hi hs hf hr hQ hy hS h
theorem Zu {v0 : Value} {p : Prop} {G : Value -> Prop} (h : p) (k : p -> G v0) : ∃ v, Ending.returned v0 = Ending.returned v /\ p /\ G v := ⟨v0, rfl, h, k h⟩
theorem Zd {P : Program} {ops : Array Oper} {Q : Exit -> Act -> World -> Prop} {id : Nat} {a : Act} {w : World} (S : World -> Prop) (hS : S (World.drew w)) (h : S (World.drew w) -> wpAnyH P .any ops Q S ops.size (Array.replicate ops.size false) a (World.drew w)) (hm : P.follows .mixedOrders = true := by kernel_rfl) : (Code.region id ops true).wp P Q a w := wp_region_held hm (h hS)
theorem Zv {w : World} {g : Nat} {t : TypeId} {cs : Array Value} (h : Blok w g t cs) (i : Nat) (v : Value) (e : cs[i]? = some v := by exact rfl) : w.cell? ⟨g, i, none⟩ = some v := (h.cell i).trans e
open Go.RowKit
theorem zef {P : Program} {o : Oper} {a : Act} {w : World} {K : Act -> World -> Prop} {Q : Exit -> Act -> World -> Prop} {f : FuncId} {args : Array Value} {R : Ending -> World -> Prop} (h : (execOp a.eval o).run P w = .ok (.enter f args) w) (hc : Calls P f args w R)
  (hR : ∀ e w', R e w' -> ∃ v, e = .returned v /\ K (a.put o.dst v) w') : o.wp P a w K Q := by
 unfold Oper.wp
 rw [h]
 exact hc.mono (fun e w' he => by obtain ⟨v, rfl, hk⟩ := hR e w' he; exact hk)
theorem zdi {P : Program} {md : Region.Mode} {ops : Array Oper} {Q : Exit -> Act -> World -> Prop} {S : World -> Prop} {fuel : Nat} {listed : Array Bool} {a : Act} {w : World} {i : Nat} {o : Oper} {f : FuncId} {args : Array Value} {R : Ending -> World -> Prop}
  (hr : Region.ready md ops listed = [i]) (ho : ops[i]? = some o) (hw : Region.wanted o (yielded ops a.tmps) = true) (h : (execOp a.eval o).run P w = .ok (.enter f args) w) (hc : Calls P f args w R)
  (hR : ∀ e w', R e w' -> ∃ v, e = .returned v /\ S w' /\ wpAnyH P md ops Q S fuel (listed.setIfInBounds i true) (a.put o.dst v) w') : wpAnyH P md ops Q S (fuel + 1) listed a w := by
 refine wpAnyH_all hr (by simp) fun j hj => ?_
 obtain rfl : j = i := by simpa using hj
 refine wpOp_step ho fun K hK => ?_
 rw [if_pos hw]
 exact zef h hc fun e w' he => by obtain ⟨v, h1, h2, h3⟩ := hR e w' he; exact ⟨v, h1, hK _ _ ⟨h2, h3⟩⟩
theorem zcd {P : Program} {md : Region.Mode} {ops : Array Oper} {Q : Exit -> Act -> World -> Prop} {S S' : World -> Prop} (h : ∀ w, S' w -> S w) : ∀ (fuel : Nat) (listed : Array Bool) (a : Act) (w : World), wpAnyH P md ops Q S' fuel listed a w -> wpAnyH P md ops Q S fuel listed a w
 | 0, _, _, _, H => H
 | n + 1, _, _, _, H => ⟨H.1, fun i hi => wpOp_mono (fun _ _ h3 => ⟨h _ h3.1, zcd h n _ _ _ h3.2⟩) (H.2 i hi)⟩
theorem Zc {P : Program} {md : Region.Mode} {ops : Array Oper} {Q : Exit -> Act -> World -> Prop} {S : World -> Prop} (i : Nat) (f : FuncId) (args : Array Value) {fuel : Nat} {listed : Array Bool} {a : Act} {w : World} {o : Oper} {R : Ending -> World -> Prop} (hc : Calls P f args w R)
  (hR : ∀ e w', R e w' -> ∃ v, e = .returned v /\ S w' /\ wpAnyH P md ops Q S fuel (listed.setIfInBounds i true) (a.put o.dst v) w') (ho : ops[i]? = some o := by exact rfl) (hr : Region.ready md ops listed = [i] := by kernel_rfl)
  (hw : Region.wanted o (yielded ops a.tmps) = true := by kernel_rfl) (h : (execOp a.eval o).run P w = .ok (.enter f args) w := by kernel_rfl) : wpAnyH P md ops Q S (fuel + 1) listed a w := zdi hr ho hw h hc hR
open Go.RowKit
theorem za8 {P : Program} {md : Region.Mode} {ops : Array Oper} {Q : Exit -> Act -> World -> Prop} {S : World -> Prop} {fuel : Nat} {listed : Array Bool} {a : Act} {w : World} {i j : Nat}
  (hr : Region.ready md ops listed = [i, j])
  (hi : wpOp P ops Q i (fun a' w' => S w' /\ wpAnyH P md ops Q S fuel (listed.setIfInBounds i true) a' w') a w)
  (hj : wpOp P ops Q j (fun a' w' => S w' /\ wpAnyH P md ops Q S fuel (listed.setIfInBounds j true) a' w') a w) : wpAnyH P md ops Q S (fuel + 1) listed a w := by
 refine wpAnyH_all hr (by simp) fun k hk => ?_
 simp only [List.mem_cons, List.not_mem_nil, or_false] at hk
 rcases hk with rfl | rfl
 ·exact hi
 ·exact hj
theorem zaf {P : Program} {md : Region.Mode} {ops : Array Oper} {Q : Exit -> Act -> World -> Prop} {S : World -> Prop} {fuel : Nat} {listed : Array Bool} {a : Act} {w : World} {i : Nat}
  (hr : Region.ready md ops listed = [i])
  (hi : wpOp P ops Q i (fun a' w' => S w' /\ wpAnyH P md ops Q S fuel (listed.setIfInBounds i true) a' w') a w) : wpAnyH P md ops Q S (fuel + 1) listed a w := by
 refine wpAnyH_all hr (by simp) fun k hk => ?_
 obtain rfl : k = i := by simpa using hk
 exact hi
theorem zam {P : Program} {ops : Array Oper} {Q : Exit -> Act -> World -> Prop} {i : Nat} {o : Oper} {K : Act -> World -> Prop} {a : Act} {w w' : World} {v : Value} (ho : ops[i]? = some o) (hw : Region.wanted o (yielded ops a.tmps) = true)
  (h : (execOp a.eval o).run P w = .ok (.value v) w') (hk : K (a.put o.dst v) w') : wpOp P ops Q i K a w := by
 refine wpOp_step ho fun K' hK' => ?_
 rw [if_pos hw]
 unfold Oper.wp
 rw [h]
 exact hK' _ _ hk
theorem zah {P : Program} {ops : Array Oper} {Q : Exit -> Act -> World -> Prop} {i : Nat} {o : Oper} {K : Act -> World -> Prop} {a : Act} {w w' : World} (ho : ops[i]? = some o) (hw : Region.wanted o (yielded ops a.tmps) = true)
  (h : (execOp a.eval o).run P w = .ok .skip w') (hk : K (a.put o.dst undef) w') : wpOp P ops Q i K a w := by
 refine wpOp_step ho fun K' hK' => ?_
 rw [if_pos hw]
 unfold Oper.wp
 rw [h]
 exact hK' _ _ hk
theorem zbo {P : Program} {ops : Array Oper} {Q : Exit -> Act -> World -> Prop} {i : Nat} {o : Oper} {K : Act -> World -> Prop} {a : Act} {w : World} {f : FuncId} {args : Array Value} {R : Ending -> World -> Prop} (ho : ops[i]? = some o) (hw : Region.wanted o (yielded ops a.tmps) = true)
  (h : (execOp a.eval o).run P w = .ok (.enter f args) w) (hc : Calls P f args w R) (hR : ∀ e w', R e w' -> ∃ v, e = .returned v /\ K (a.put o.dst v) w') : wpOp P ops Q i K a w := by
 refine wpOp_step ho fun K' hK' => ?_
 rw [if_pos hw]
 exact zef h hc fun e w' he => by obtain ⟨v, h1, h2⟩ := hR e w' he; exact ⟨v, h1, hK' _ _ h2⟩
theorem zu6 {P : Program} {ops : Array Oper} {Q : Exit -> Act -> World -> Prop} {j : Nat} {o : Oper} {K : Act -> World -> Prop} {a : Act} {w : World} (ho : ops[j]? = some o) (hw : Region.wanted o (yielded ops a.tmps) = true) (s x : Operand) (t : TypeId)
  (hop : o.op = .call { callee := .builtin .append, args := #[s, x], argTypes := #[t, t] })
  (base : Nat) (e : TypeId) (i : TypeInfo) (z : Value) (bytes : Nat) (ht : P.underlying t = some (.slice e)) (hi : P.info? e = some i) (hz : i.zero = some z)
  (hsize : i.size = 1) (hby : i.bytes = bytes) (hzs : z.cells.size = 1)
  (v : Value) (n : Nat) (xs : List Value) (hs : a.eval s = v) (hown : w.ownsRow base e 1 v n xs)
  (k : IntKind) (ad : Addr) (m c : Nat) (L : List Int) (hx : a.eval x = .slice (some ad) m c) (hr : zfv k w (some ad) c L) (hm : L.length = m)
  (h63 : n + m <= maxLen) (hbytes : (n + m) * bytes <= 140737488355328) (hbase : base <= w.heap.size)
  (h : ∀ v' w', w'.ownsRow base e 1 v' (n + m) (xs ++ L.map (Value.int k)) -> w.grownBy w' v.ownBlock -> K (a.put o.dst v') w') : wpOp P ops Q j K a w := by
 refine wpOp_step ho fun K' hK' => ?_
 rw [if_pos hw]
 refine wp_append_own w s x t hop base e i z 1 bytes ht hi hz hsize hby hzs (by decide) v n xs hs hown ad m c (L.map (Value.int k)) hx (by simp [hm]) (fun j u hj => ?_) (zoh k L) h63 hbytes hbase (fun v' w' h1 h2 _ => hK' _ _ (h v' w' h1 h2))
 rcases hr.2.2 with rfl | ⟨b, off, he, _, hc⟩
 ·simp at hj
 ·cases he
  obtain ⟨hj', hv⟩ := List.getElem?_eq_some_iff.1 hj
  rw [WideShapes.add_plain, hc j (by simpa using hj')]
  rw [<- hv]
  simp at hj'
  simp [hj']
theorem zc7 (t : Array Value) (df : List _) (d : Nat) (v : Value) : Act.put ⟨t, df⟩ (some d) v = ⟨t.setIfInBounds d v, df⟩ := rfl
theorem ztx (a : Act) (v : Value) : Act.put a none v = a := rfl
open Go.RowKit
end Go.Proofs.YtnbkkjcmblfhpaaGreat
namespace Go.Proofs.YtnbkkjcmblfhpaaGreat
open Go.RowKit
def zsr (B : Nat) (n : Int) (w : World) (e : Ending) (w' : World) : Prop :=
 ∃ v, e = .returned v /\ w'.ownsRow B 5 1 v (M.put n).length ((M.put n).map (Value.int .u8)) /\ Below w.heap.size w w'
theorem zn4 {n c : Int} (h : c ∈ M.put n) : (Lit.int .u8 c).wf = true := by
 unfold M.put at h
 split at h
 ·have := M.puts_byte _ _ (Nat.le_refl _) c h
  simp [Lit.wf, IntKind.min, IntKind.max, IntKind.signed, IntKind.bits]; omega
 ·cases h
theorem zyw (n : Int) : ∀ c ∈ M.put n, (Lit.int .u8 c).wf = true := fun _ h => zn4 h
end Go.Proofs.YtnbkkjcmblfhpaaGreat
namespace Go.Proofs.YtnbkkjcmblfhpaaGreat
open Go.RowKit
def M.all (L : List Int) : Option (List Int) := if L.length <= 400 /\ ∀ n ∈ L, 0 <= n /\ n <= 1099511627776 then some (L.flatMap M.put) else none
def zqo (L : List Int) (w : World) (e : Ending) (w' : World) : Prop :=
 ∃ v ok, e = .returned (.tuple #[v, .bool ok]) /\ ok = (M.all L).isSome /\ w'.ownsRow w.heap.size 5 1 v ((M.all L).getD []).length (((M.all L).getD []).map (Value.int .u8)) /\ Below w.heap.size w w'
theorem zr8 {L : List Int} (h : 400 < L.length) : M.all L = none := by unfold M.all; rw [if_neg]; omega
theorem zss {L : List Int} {n : Int} (hm : n ∈ L) (h : ¬ (0 <= n /\ n <= 1099511627776)) : M.all L = none := by unfold M.all; rw [if_neg]; intro hh; exact h (hh.2 n hm)
theorem zpa {L : List Int} (hl : L.length <= 400) (h : ∀ n ∈ L, 0 <= n /\ n <= 1099511627776) : M.all L = some (L.flatMap M.put) := by unfold M.all; rw [if_pos ⟨hl, h⟩]
theorem zqo.no {L : List Int} {w w' : World} (h : M.all L = none) (hb : Below w.heap.size w w') : zqo L w (.returned (.tuple #[.slice none 0 0, .bool false])) w' := by
 refine ⟨_, _, rfl, ?_, ?_, hb⟩ <;> rw [h]
 ·rfl
 ·exact World.ownsRow_nil _ _ _ _
theorem flat_len : ∀ (L : List Int), (L.flatMap M.put).length <= 6 * L.length
 | [] => by simp
 | n :: r => by have := flat_len r; have := M.put_len6 n; rw [List.flatMap_cons, List.length_append, List.length_cons]; omega
theorem zrh {L : List Int} {k : Nat} (hk : k < L.length) : (L.take (k + 1)).flatMap M.put = (L.take k).flatMap M.put ++ M.put (L.getD k 0) := by
 rw [List.take_succ_eq_append_getElem hk, List.flatMap_append]; simp [hk]
end Go.Proofs.YtnbkkjcmblfhpaaGreat
namespace Go.Proofs.YtnbkkjcmblfhpaaGreat
open Go.RowKit
def M.isn (n : Int) : Prop := 0 <= n /\ n <= 1099511627776
theorem zoi {n : Int} (h : M.isn n) (r : List Int) : M.head (M.put n ++ r) = some (n, (M.put n).length) := by
 rw [M.put_yes h.1 h.2]
 have h1 := h.1; have h2 := h.2
 have := M.dig_puts 6 n.toNat true 0 1 r (by omega) (by omega) (by omega) (by omega) (by simp) (by omega)
 rw [M.head, this]
 congr 2
 omega
theorem zok {n : Int} (h : M.isn n) : 0 < (M.put n).length := (M.put_pos_iff n).2 h
theorem znn : ∀ (l k : List Int) (r : List Int), (∀ n ∈ l, M.isn n) -> (∀ n ∈ k, M.isn n) -> l.flatMap M.put ++ r = k.flatMap M.put -> ∃ t, k = l ++ t /\ r = t.flatMap M.put
 | [], k, r, _, _, h => ⟨k, rfl, by simpa using h⟩
 | n :: l, [], r, hl, _, h => by
  have := zok (hl n (by simp))
  have h' := congrArg List.length h
  simp only [List.flatMap_cons, List.flatMap_nil, List.length_append, List.length_nil] at h'; omega
 | n :: l, m :: k, r, hl, hk, h => by
  have hn := hl n (by simp)
  have hm := hk m (by simp)
  simp only [List.flatMap_cons, List.append_assoc] at h
  have e1 := zoi hn (l.flatMap M.put ++ r)
  rw [h, zoi hm] at e1
  simp at e1
  obtain ⟨rfl, _⟩ := e1
  obtain ⟨t, rfl, ht⟩ := znn l k r (fun x hx => hl x (by simp [hx])) (fun x hx => hk x (by simp [hx])) (List.append_cancel_left h)
  exact ⟨t, rfl, ht⟩
theorem zqi {l k : List Int} (hl : ∀ n ∈ l, M.isn n) (hk : ∀ n ∈ k, M.isn n) (h : l.flatMap M.put = k.flatMap M.put) : l = k := by
 obtain ⟨t, rfl, ht⟩ := znn l k [] hl hk (by simpa using h)
 cases t with
 | nil => simp
 | cons n t =>
  have := zok (hk n (by simp))
  have h' := congrArg List.length ht
  simp only [List.flatMap_cons, List.length_append, List.length_nil] at h'; omega
theorem znc {l b : List Int} : M.all l = some b ↔ (l.length <= 400 /\ (∀ n ∈ l, M.isn n) /\ b = l.flatMap M.put) := by
 unfold M.all
 constructor
 ·intro h
  split at h
  ·next hh => exact ⟨hh.1, hh.2, by simpa using h.symm⟩
  ·cases h
 ·rintro ⟨h1, h2, rfl⟩
  rw [if_pos ⟨h1, h2⟩]
theorem zst {l k b : List Int} (h : M.all l = some b) (h' : M.all k = some b) : l = k := by
 obtain ⟨_, h2, h3⟩ := znc.1 h
 obtain ⟨_, k2, k3⟩ := znc.1 h'
 exact zqi h2 k2 (h3.symm.trans k3)
open Classical in
noncomputable def M.read (b : List Int) : Option (List Int) := if h : ∃ l, M.all l = some b then some (Classical.choose h) else none
theorem read_some {l b : List Int} : M.read b = some l ↔ M.all l = some b := by
 unfold M.read
 constructor
 ·intro h
  split at h
  ·next hh =>
   have e : Classical.choose hh = l := by simpa using h
   rw [<- e]; exact Classical.choose_spec hh
  ·cases h
 ·intro h
  have hh : ∃ l, M.all l = some b := ⟨l, h⟩
  rw [dif_pos hh]
  congr 1
  exact zst (Classical.choose_spec hh) h
theorem read_none {b : List Int} (h : ∀ l, M.all l ≠ some b) : M.read b = none := by
 cases hr : M.read b with
 | none => rfl
 | some l => exact absurd (read_some.1 hr) (h l)
def Part (b l : List Int) (p : Nat) : Prop := p <= b.length /\ (∀ n ∈ l, M.isn n) /\ b.take p = l.flatMap M.put
theorem Part.start (b : List Int) : Part b [] 0 := ⟨by omega, by simp, by simp⟩
theorem Part.stops {b l k : List Int} {p : Nat} (h : Part b l p) (hp : p < b.length) (hk : M.all k = some b) : ∃ n t, k = l ++ n :: t /\ M.isn n /\ M.head (b.drop p) = some (n, (M.put n).length) := by
 obtain ⟨_, h2, h3⟩ := h
 obtain ⟨_, k2, k3⟩ := znc.1 hk
 have e : l.flatMap M.put ++ b.drop p = k.flatMap M.put := by rw [<- h3, List.take_append_drop, k3]
 obtain ⟨t, rfl, ht⟩ := znn l k _ h2 k2 e
 cases t with
 | nil => have := congrArg List.length ht; simp at this; omega
 | cons n t => exact ⟨n, t, rfl, k2 n (by simp), by rw [ht, List.flatMap_cons]; exact zoi (k2 n (by simp)) _⟩
theorem Part.fail {b l : List Int} {p : Nat} (h : Part b l p) (hp : p < b.length) (hh : M.head (b.drop p) = none) : M.read b = none :=
 read_none fun k hk => by
  obtain ⟨n, t, _, _, e⟩ := h.stops hp hk
  rw [hh] at e; cases e
theorem Part.done {b l : List Int} {p : Nat} (h : Part b l p) (hp : b.length <= p) (hl : l.length <= 400) : M.read b = some l := by
 refine read_some.2 (znc.2 ⟨hl, h.2.1, ?_⟩)
 rw [<- h.2.2, List.take_of_length_le hp]
theorem zoc {b : List Int} {n : Int} {e : Nat} (hb : ∀ c ∈ b, 0 <= c /\ c <= 255) (h : M.head b = some (n, e)) : M.isn n /\ b.take e = M.put n /\ e = (M.put n).length /\ e <= b.length /\ 0 < e := by
 obtain ⟨m, hn, ht, hl, hle, _, h0, h1⟩ := M.dig_sound 6 true 0 1 b n e (by omega) (by omega) hb h
 have hm : n.toNat = m := by omega
 have hp : M.put n = M.puts m := by rw [M.put_yes h0 h1, hm]
 rw [hp]
 exact ⟨⟨h0, h1⟩, ht, hl, hle, by rw [hl]; exact M.puts_pos m⟩
theorem Part.step {b l : List Int} {p : Nat} {n : Int} {e : Nat} (hb : ∀ c ∈ b, 0 <= c /\ c <= 255) (h : Part b l p) (hh : M.head (b.drop p) = some (n, e)) : Part b (l ++ [n]) (p + e) /\ 0 < e /\ p < b.length /\ M.isn n := by
 obtain ⟨hn, ht, hl, hle, h0⟩ := zoc (fun c hc => hb c (List.mem_of_mem_drop hc)) hh
 obtain ⟨h1, h2, h3⟩ := h
 simp at hle
 refine ⟨⟨by omega, ?_, ?_⟩, h0, by omega, hn⟩
 ·intro x hx
  rcases List.mem_append.1 hx with hx | hx
  ·exact h2 x hx
  ·simp at hx; rw [hx]; exact hn
 ·rw [List.take_add, h3, ht]; simp
theorem zqj {n : Int} (h : M.isn n) : (Lit.int .i64 n).wf = true := by
 have h1 := h.1; have h2 := h.2
 simp [Lit.wf, IntKind.min, IntKind.max, IntKind.signed, IntKind.bits]; omega
theorem zr9 {l b : List Int} (h : M.all l = some b) : ∀ c ∈ b, (Lit.int .u8 c).wf = true := by
 obtain ⟨_, _, rfl⟩ := znc.1 h
 intro c hc
 obtain ⟨n, _, hn⟩ := List.mem_flatMap.1 hc
 exact zn4 hn
theorem zsn (L : List Int) : ∀ c ∈ (M.all L).getD [], (Lit.int .u8 c).wf = true := by
 cases hr : M.all L with
 | none => simp
 | some b => simpa using zr9 hr
theorem zsu (L : List Int) : ∀ c ∈ (M.read L).getD [], (Lit.int .i64 c).wf = true := by
 cases hr : M.read L with
 | none => simp
 | some b => simpa using fun c hc => zqj ((znc.1 (read_some.1 hr)).2.1 c hc)
end Go.Proofs.YtnbkkjcmblfhpaaGreat
namespace Go.Proofs.YtnbkkjcmblfhpaaGreat
def C.take (x : BitVec 32) (b : Bool) : BitVec 32 := if (x.msb ^^ b) then (x <<< 1) ^^^ 0x04c11db7#32 else x <<< 1
def C.rn (x : BitVec 32) (f : Nat -> Bool) : Nat -> BitVec 32
 | 0 => x
 | n + 1 => C.take (C.rn x f n) (f n)
def C.bit (L : List Int) (j : Nat) : Bool := (L.getD (j / 8) 0).toNat.testBit (7 - j % 8)
def C.wf (L : List Int) : Prop := ∀ c ∈ L, 0 <= c /\ c <= 255
def C.run (x : BitVec 32) (L : List Int) : BitVec 32 := C.rn x (C.bit L) (8 * L.length)
def C.sum (L : List Int) : BitVec 32 := ~~~ (C.run (BitVec.allOnes 32) L)
def C.more (s : BitVec 32) (L : List Int) : BitVec 32 := ~~~ (C.run (~~~s) L)
def C.four (s : BitVec 32) : List Int := [((s.toNat / 16777216 : Nat) : Int), ((s.toNat / 65536 % 256 : Nat) : Int), ((s.toNat / 256 % 256 : Nat) : Int), ((s.toNat % 256 : Nat) : Int)]
theorem C.four_wf (s : BitVec 32) : C.wf (C.four s) := by
 intro c hc
 have := s.isLt
 simp [C.four] at hc
 omega
def C.seal (L : List Int) : List Int := L ++ C.four (C.sum L)
theorem C.seal_len (L : List Int) : (C.seal L).length = L.length + 4 := by simp [C.seal, C.four]
theorem C.seal_wf {L : List Int} (h : C.wf L) : C.wf (C.seal L) := by
 intro c hc
 rcases List.mem_append.1 hc with hc | hc
 ·exact h c hc
 ·exact C.four_wf _ c hc
def C.open (D : List Int) : Option (List Int) := if 4 <= D.length /\ C.seal (D.take (D.length - 4)) = D then some (D.take (D.length - 4)) else none
theorem C.open_some {D L : List Int} : C.open D = some L ↔ C.seal L = D := by
 unfold C.open
 constructor
 ·intro h
  split at h
  ·next hh => cases h; exact hh.2
  ·cases h
 ·rintro rfl
  rw [C.seal_len, Nat.add_sub_cancel]
  have : (C.seal L).take L.length = L := by simp [C.seal]
  rw [this, if_pos ⟨by omega, rfl⟩]
theorem C.open_seal (L : List Int) : C.open (C.seal L) = some L := C.open_some.2 rfl
theorem C.open_short {D : List Int} (h : D.length < 4) : C.open D = none := by
 unfold C.open
 rw [if_neg (by omega)]
end Go.Proofs.YtnbkkjcmblfhpaaGreat
namespace Go.Proofs.YtnbkkjcmblfhpaaGreat
abbrev R.T := Int × List Int
def R.ok (r : R.T) : Prop := 0 <= r.1 /\ r.1 <= 255 /\ r.2.length <= 1000
instance (r : R.T) : Decidable (R.ok r) := inferInstanceAs (Decidable (0 <= r.1 /\ r.1 <= 255 /\ r.2.length <= 1000))
def R.pre (r : R.T) : List Int := r.1 :: (M.put r.2.length ++ r.2)
def R.bytes (r : R.T) : List Int := C.seal (R.pre r)
def R.put (r : R.T) : Option (List Int) := if R.ok r then some (R.bytes r) else none
theorem R.put_some {r : R.T} {P : List Int} : R.put r = some P ↔ R.ok r /\ P = R.bytes r := by
 unfold R.put
 split
 ·next h => exact ⟨fun e => ⟨h, by simpa using e.symm⟩, fun e => by rw [e.2]⟩
 ·next h => exact ⟨fun e => (by cases e), fun e => absurd e.1 h⟩
theorem R.put_yes {r : R.T} (h : R.ok r) : R.put r = some (R.bytes r) := R.put_some.2 ⟨h, rfl⟩
theorem R.put_no {r : R.T} (h : ¬ R.ok r) : R.put r = none := by unfold R.put; rw [if_neg h]
theorem R.isn {r : R.T} (h : R.ok r) : M.isn (r.2.length : Int) := ⟨by omega, by have := h.2.2; omega⟩
theorem R.pre_len (r : R.T) : (R.pre r).length = 1 + (M.put r.2.length).length + r.2.length := by simp [R.pre]; omega
theorem R.bytes_len (r : R.T) : (R.bytes r).length = 1 + (M.put r.2.length).length + r.2.length + 4 := by rw [R.bytes, C.seal_len, R.pre_len]
theorem R.put_len {r : R.T} (h : R.ok r) : (M.put r.2.length).length = if r.2.length < 128 then 1 else 2 := by
 have h2 := h.2.2
 rw [M.put_yes (by omega) (by omega), Int.toNat_natCast]
 split
 ·next hl => rw [M.puts_lt hl]; rfl
 ·next hl => rw [M.puts_ge (by omega), M.puts_lt (by omega)]; rfl
theorem R.bytes_big {r : R.T} (h : R.ok r) : 6 <= (R.bytes r).length /\ (R.bytes r).length <= 1007 := by
 have := h.2.2
 rw [R.bytes_len, R.put_len h]
 split <;> omega
theorem R.pre_wf {r : R.T} (h : R.ok r) (hb : C.wf r.2) : C.wf (R.pre r) := by
 intro c hc
 rcases List.mem_cons.1 hc with rfl | hc
 ·exact ⟨h.1, h.2.1⟩
 ·rcases List.mem_append.1 hc with hc | hc
  ·have hn := R.isn h
   rw [M.put_yes hn.1 hn.2] at hc
   exact M.puts_byte _ _ (Nat.le_refl _) c hc
  ·exact hb c hc
def R.cut (D : List Int) : Prop := D = [] \/ (D.tail.length < 6 /\ ∀ c ∈ D.tail, 128 <= c)
instance (D : List Int) : Decidable (R.cut D) := inferInstanceAs (Decidable (D = [] \/ (D.tail.length < 6 /\ ∀ c ∈ D.tail, 128 <= c)))
def R.head (D : List Int) : Int × R.T × Nat :=
 if R.cut D then (4, (0, []), 0) else
 match M.head D.tail with
 | none => (2, (0, []), 0)
 | some (n, e) =>
  if 1000 < n then (2, (0, []), 0)
  else if D.length < 1 + e + n.toNat + 4 then (4, (0, []), 0)
  else if (C.open (D.take (1 + e + n.toNat + 4))).isSome then (0, (D.headD 0, (D.drop (1 + e)).take n.toNat), 1 + e + n.toNat + 4)
  else (3, (0, []), 0)
def R.get (L : List Int) (p : Int) : Int × R.T × Int :=
 if p < 0 \/ (L.length : Int) < p then (2, (0, []), 0)
 else ((R.head (L.drop p.toNat)).1, (R.head (L.drop p.toNat)).2.1, if (R.head (L.drop p.toNat)).1 = 0 then p + (R.head (L.drop p.toNat)).2.2 else 0)
theorem R.get_out {L : List Int} {p : Int} (h : p < 0 \/ (L.length : Int) < p) : R.get L p = (2, (0, []), 0) := by unfold R.get; rw [if_pos h]
theorem R.get_at {L : List Int} {p : Nat} (h : p <= L.length) : R.get L p = ((R.head (L.drop p)).1, (R.head (L.drop p)).2.1, if (R.head (L.drop p)).1 = 0 then (p : Int) + (R.head (L.drop p)).2.2 else 0) := by
 unfold R.get; rw [if_neg (by omega)]; simp
theorem R.get_err {L : List Int} {p : Nat} {e : Int} (h : p <= L.length) (he : e ≠ 0) (hh : R.head (L.drop p) = (e, (0, []), 0)) : R.get L p = (e, (0, []), 0) := by
 rw [R.get_at h, hh]; simp [he]
theorem R.get_ok {L : List Int} {p s : Nat} {r : R.T} (h : p <= L.length) (hh : R.head (L.drop p) = (0, r, s)) : R.get L p = (0, r, (p : Int) + s) := by
 rw [R.get_at h, hh]; simp
theorem R.head_cut {D : List Int} (h : R.cut D) : R.head D = (4, (0, []), 0) := by unfold R.head; rw [if_pos h]
theorem R.head_none {D : List Int} (h : ¬ R.cut D) (hm : M.head D.tail = none) : R.head D = (2, (0, []), 0) := by unfold R.head; rw [if_neg h, hm]
theorem R.head_big {D : List Int} {n : Int} {e : Nat} (h : ¬ R.cut D) (hm : M.head D.tail = some (n, e)) (hn : 1000 < n) : R.head D = (2, (0, []), 0) := by unfold R.head; rw [if_neg h, hm]; simp [hn]
theorem R.head_few {D : List Int} {n : Int} {e : Nat} (h : ¬ R.cut D) (hm : M.head D.tail = some (n, e)) (hn : ¬ 1000 < n) (hl : D.length < 1 + e + n.toNat + 4) : R.head D = (4, (0, []), 0) := by
 unfold R.head; rw [if_neg h, hm]; simp [hn, hl]
theorem R.head_sum {D : List Int} {n : Int} {e : Nat} (h : ¬ R.cut D) (hm : M.head D.tail = some (n, e)) (hn : ¬ 1000 < n) (hl : ¬ D.length < 1 + e + n.toNat + 4) (ho : (C.open (D.take (1 + e + n.toNat + 4))).isSome = false) : R.head D = (3, (0, []), 0) := by
 unfold R.head; rw [if_neg h, hm]; simp only [if_neg hn, if_neg hl, ho]; rfl
theorem R.head_yes {D : List Int} {n : Int} {e : Nat} (h : ¬ R.cut D) (hm : M.head D.tail = some (n, e)) (hn : ¬ 1000 < n) (hl : ¬ D.length < 1 + e + n.toNat + 4) (ho : (C.open (D.take (1 + e + n.toNat + 4))).isSome = true) :
  R.head D = (0, (D.headD 0, (D.drop (1 + e)).take n.toNat), 1 + e + n.toNat + 4) := by
 unfold R.head; rw [if_neg h, hm]; simp only [if_neg hn, if_neg hl, ho]; rfl
theorem zxf : ∀ (k n : Nat), n <= k -> ∀ c ∈ (M.puts n).take ((M.puts n).length - 1), 128 <= c
 | k, n, hk => by
  by_cases h1 : n < 128
  ·rw [M.puts_lt h1]; simp
  ·rw [M.puts_ge (by omega)]
   have hp := M.puts_pos (n / 128)
   intro c hc
   rw [List.length_cons, Nat.add_sub_cancel] at hc
   obtain ⟨m, hm⟩ : ∃ m, (M.puts (n / 128)).length = m + 1 := ⟨(M.puts (n / 128)).length - 1, by omega⟩
   rw [hm, List.take_succ_cons] at hc
   rcases List.mem_cons.1 hc with rfl | hc
   ·omega
   ·match k, hk with
    | k + 1, hk => exact zxf k (n / 128) (by omega) c (by rw [hm]; exact hc)
    | 0, hk => omega
theorem zvr : ∀ (k n : Nat), n <= k -> ∃ c ∈ M.puts n, c < 128
 | k, n, hk => by
  by_cases h1 : n < 128
  ·rw [M.puts_lt h1]; exact ⟨n, by simp, by omega⟩
  ·rw [M.puts_ge (by omega)]
   match k, hk with
   | k + 1, hk =>
    obtain ⟨c, h2, h3⟩ := zvr k (n / 128) (by omega)
    exact ⟨c, by simp [h2], h3⟩
   | 0, hk => omega
theorem R.not_cut {d : Int} {n : Int} {K : List Int} (hn : M.isn n) : ¬ R.cut (d :: (M.put n ++ K)) := by
 rintro (h | ⟨_, h⟩)
 ·cases h
 ·obtain ⟨c, hc, h1⟩ := zvr _ n.toNat (Nat.le_refl _)
  have := h c (by rw [List.tail_cons, M.put_yes hn.1 hn.2]; simp [hc])
  omega
theorem R.head_bytes {r : R.T} (h : R.ok r) (K : List Int) : R.head (R.bytes r ++ K) = (0, r, (R.bytes r).length) := by
 have hn := R.isn h
 have hD : R.bytes r ++ K = r.1 :: (M.put r.2.length ++ (r.2 ++ (C.four (C.sum (R.pre r)) ++ K))) := by simp [R.bytes, C.seal, R.pre]
 have hm : M.head (R.bytes r ++ K).tail = some ((r.2.length : Int), (M.put r.2.length).length) := by rw [hD, List.tail_cons]; exact zoi hn _
 have hs : (R.bytes r).length = 1 + (M.put r.2.length).length + ((r.2.length : Int)).toNat + 4 := by rw [R.bytes_len, Int.toNat_natCast]
 have ht : (R.bytes r ++ K).take (1 + (M.put r.2.length).length + ((r.2.length : Int)).toNat + 4) = C.seal (R.pre r) := by rw [<- hs, List.take_left' rfl]; rfl
 rw [R.head_yes (by rw [hD]; exact R.not_cut hn) hm (by have := h.2.2; omega) (by rw [List.length_append, hs]; omega) (by rw [ht, C.open_seal]; rfl)]
 rw [hs, hD]
 congr 2
 have e1 : 1 + (M.put r.2.length).length = (M.put r.2.length).length + 1 := by omega
 rw [e1, List.drop_succ_cons, List.drop_left' rfl, Int.toNat_natCast, List.take_left' rfl]
 rfl
end Go.Proofs.YtnbkkjcmblfhpaaGreat
namespace Go.Proofs.YtnbkkjcmblfhpaaGreat
namespace Y
structure Po where
 q : Int
 i : Int
 h : Int
 pair : Bool
deriving DecidableEq
structure Ev where
 k : Int
 t : Int
 a : Int
 b : Int
 c : Int
 p : Po
deriving DecidableEq
def zp : Po := ⟨0, 0, 0, false⟩
def MayP (p : Po) : Prop := 1 <= p.q /\ p.q <= 8 /\ 1 <= p.i /\ p.i <= 1048576 /\ 0 <= p.h /\ p.h <= 1048576
instance (p : Po) : Decidable (MayP p) := by unfold MayP; exact inferInstance
end Y
end Go.Proofs.YtnbkkjcmblfhpaaGreat
