import Derived.Lib.BitFns
import Derived.Test.YtnbkkjcmblfhpaaGreatP0
import Derived.Test.YtnbkkjcmblfhpaaGreatP5
namespace Go.Proofs.YtnbkkjcmblfhpaaGreat
namespace N
def May (e : Y.Ev) : Prop :=
 (0 <= e.t /\ e.t <= 1073741824) /\
 ((e.k = 0 \/ e.k = 1) /\ (0 <= e.a /\ e.a <= 31) /\ (0 <= e.b /\ e.b <= 3) /\ (0 <= e.c /\ e.c <= 7) /\ e.p = Y.zp \/
 e.k = 2 /\ (0 <= e.a /\ e.a <= 3) /\ (1 <= e.b /\ e.b <= 4) /\ e.c = 0 /\ e.p = Y.zp \/
 (e.k = 3 \/ e.k = 5) /\ (0 <= e.a /\ e.a <= 2) /\ e.b = 0 /\ e.c = 0 /\ e.p = Y.zp \/
 e.k = 4 /\ (0 <= e.a /\ e.a <= 2) /\ (1 <= e.b /\ e.b <= 4) /\ e.c = 0 /\ e.p = Y.zp \/
 e.k = 6 /\ e.a = 0 /\ e.b = 0 /\ e.c = 0 /\ Y.MayP e.p)
instance (e : Y.Ev) : Decidable (May e) := by unfold May; exact inferInstance
def nums (e : Y.Ev) : List Int :=
 if e.k = 0 \/ e.k = 1 then [32 * e.a + 8 * e.b + e.c]
 else if e.k = 2 \/ e.k = 4 then [8 * e.a + e.b]
 else if e.k = 6 then [e.p.q, e.p.i, e.p.h, if e.p.pair = true then 1 else 0]
 else [e.a]
def tick (t : Int) : Prop := 0 <= t /\ t <= 1073741824
instance (t : Int) : Decidable (tick t) := by unfold tick; exact inferInstance
def ok : Int -> List Y.Ev -> Prop
 | _, [] => True
 | t, e :: l => May e /\ t <= e.t /\ ok e.t l
instance ok.dec : (t : Int) -> (l : List Y.Ev) -> Decidable (ok t l)
 | _, [] => .isTrue trivial
 | _, e :: l => @instDecidableAnd _ _ inferInstance (@instDecidableAnd _ _ inferInstance (ok.dec e.t l))
def flat : Int -> List Y.Ev -> List Int
 | _, [] => []
 | t, e :: l => (16 * (e.t - t) + e.k) :: (nums e ++ flat e.t l)
def last : Int -> List Y.Ev -> Int
 | t, [] => t
 | _, e :: l => last e.t l
def put (t : Int) (l : List Y.Ev) : Option (List Int) := if tick t /\ ok t l then M.all (flat t l) else none
theorem ok_append : ∀ (l k : List Y.Ev) (t : Int), ok t (l ++ k) ↔ ok t l /\ ok (last t l) k
 | [], _, _ => by simp [ok, last]
 | e :: l, k, t => by simp only [List.cons_append, ok, last, ok_append l k e.t]; grind
theorem flat_append : ∀ (l k : List Y.Ev) (t : Int), flat t (l ++ k) = flat t l ++ flat (last t l) k
 | [], _, _ => by simp [flat, last]
 | e :: l, k, t => by simp only [List.cons_append, flat, last, flat_append l k e.t, List.append_assoc]
theorem last_append : ∀ (l k : List Y.Ev) (t : Int), last t (l ++ k) = last (last t l) k
 | [], _, _ => by simp [last]
 | e :: l, k, t => by simp only [List.cons_append, last, last_append l k e.t]
theorem last_tick : ∀ (l : List Y.Ev) (t : Int), tick t -> ok t l -> tick (last t l)
 | [], _, h, _ => h
 | e :: l, t, h, hk => by
  obtain ⟨h1, h2, h3⟩ := hk
  exact last_tick l e.t ⟨h1.1.1, h1.1.2⟩ h3
theorem nums_len (e : Y.Ev) : 1 <= (nums e).length /\ (nums e).length <= 4 := by
 unfold nums; split
 ·simp
 ·split
  ·simp
  ·split <;> simp
theorem nums_isn {e : Y.Ev} (h : May e) : ∀ n ∈ nums e, M.isn n := by
 intro n hn
 obtain ⟨-, h⟩ := h
 unfold nums at hn
 unfold M.isn
 rcases h with ⟨hk, h1, h2, h3, -⟩ | ⟨hk, h1, h2, h3, -⟩ | ⟨hk, h1, h2, h3, -⟩ | ⟨hk, h1, h2, h3, -⟩ | ⟨hk, h1, h2, h3, h4⟩
 ·rw [if_pos hk] at hn; simp at hn; omega
 ·rw [if_neg (by omega), if_pos (by omega)] at hn; simp at hn; omega
 ·rw [if_neg (by omega), if_neg (by omega), if_neg (by omega)] at hn; simp at hn; omega
 ·rw [if_neg (by omega), if_pos (by omega)] at hn; simp at hn; omega
 ·rw [if_neg (by omega), if_neg (by omega), if_pos hk] at hn
  obtain ⟨p1, p2, p3, p4, p5, p6⟩ := h4
  simp only [List.mem_cons, List.not_mem_nil, or_false] at hn
  rcases hn with rfl | rfl | rfl | rfl
  ·omega
  ·omega
  ·omega
  ·split <;> omega
theorem May.kind {e : Y.Ev} (h : May e) : 0 <= e.k /\ e.k <= 6 := by
 obtain ⟨-, h⟩ := h
 rcases h with ⟨h, -⟩ | ⟨h, -⟩ | ⟨h, -⟩ | ⟨h, -⟩ | ⟨h, -⟩ <;> omega
theorem flat_isn : ∀ (l : List Y.Ev) (t : Int), tick t -> ok t l -> ∀ n ∈ flat t l, M.isn n
 | [], _, _, _, n, hn => by simp [flat] at hn
 | e :: l, t, ht, hk, n, hn => by
  obtain ⟨h1, h2, h3⟩ := hk
  have hT := h1.1
  have hK := h1.kind
  unfold tick at ht
  simp only [flat, List.mem_cons, List.mem_append] at hn
  rcases hn with rfl | hn | hn
  ·unfold M.isn; omega
  ·exact nums_isn h1 n hn
  ·exact flat_isn l e.t ⟨hT.1, hT.2⟩ h3 n hn
theorem nums01 {e : Y.Ev} (h : e.k = 0 \/ e.k = 1) : nums e = [32 * e.a + 8 * e.b + e.c] := by unfold nums; rw [if_pos h]
theorem nums24 {e : Y.Ev} (h : e.k = 2 \/ e.k = 4) : nums e = [8 * e.a + e.b] := by unfold nums; rw [if_neg (by omega), if_pos h]
theorem nums6 {e : Y.Ev} (h : e.k = 6) : nums e = [e.p.q, e.p.i, e.p.h, if e.p.pair = true then 1 else 0] := by unfold nums; rw [if_neg (by omega), if_neg (by omega), if_pos h]
theorem nums35 {e : Y.Ev} (h : e.k = 3 \/ e.k = 5) : nums e = [e.a] := by unfold nums; rw [if_neg (by omega), if_neg (by omega), if_neg (by omega)]
open Classical in
def low (k : Int) : Int := if k = 2 \/ k = 4 then 1 else 0
def hiA (k : Int) : Int := if k = 0 \/ k = 1 then 31 else if k = 2 then 3 else if k = 6 then 0 else 2
def hiB (k : Int) : Int := if k = 0 \/ k = 1 then 3 else if k = 2 \/ k = 4 then 4 else 0
def hiC (k : Int) : Int := if k = 0 \/ k = 1 then 7 else 0
theorem may_iff (e : Y.Ev) : May e ↔ (0 <= e.k /\ e.k <= 6) /\ tick e.t /\ (0 <= e.a /\ e.a <= hiA e.k) /\ (low e.k <= e.b /\ e.b <= hiB e.k) /\ (0 <= e.c /\ e.c <= hiC e.k) /\ (e.k = 6 -> Y.MayP e.p) /\ (¬ e.k = 6 -> e.p = Y.zp) := by
 constructor
 ·intro h
  refine ⟨h.kind, h.1, ?_⟩
  obtain ⟨-, h⟩ := h
  unfold low hiA hiB hiC
  rcases h with ⟨k1, h1, h2, h3, h4⟩ | ⟨k1, h1, h2, h3, h4⟩ | ⟨k1, h1, h2, h3, h4⟩ | ⟨k1, h1, h2, h3, h4⟩ | ⟨k1, h1, h2, h3, h4⟩
  ·rw [if_pos k1, if_pos k1, if_pos k1, if_neg (by omega)]; exact ⟨h1, h2, h3, by omega, fun _ => h4⟩
  ·simp [k1]; exact ⟨h1, h2, by omega, h4⟩
  ·rcases k1 with k1 | k1 <;> simp [k1] <;> exact ⟨h1, by omega, by omega, h4⟩
  ·simp [k1]; exact ⟨h1, h2, by omega, h4⟩
  ·simp [k1]; exact ⟨by omega, by omega, by omega, h4⟩
 ·rintro ⟨hk, ht, ha, hb, hc, h6, hz⟩
  refine ⟨ht, ?_⟩
  have k1 : e.k = 0 \/ e.k = 1 \/ e.k = 2 \/ e.k = 3 \/ e.k = 4 \/ e.k = 5 \/ e.k = 6 := by omega
  unfold low at hb
  unfold hiA at ha
  unfold hiB at hb
  unfold hiC at hc
  rcases k1 with k1 | k1 | k1 | k1 | k1 | k1 | k1 <;> simp [k1] at ha hb hc h6 hz ⊢
  ·exact ⟨ha, hb, hc, hz⟩
  ·exact ⟨ha, hb, hc, hz⟩
  ·exact ⟨ha, hb, by omega, hz⟩
  ·exact ⟨ha, by omega, by omega, hz⟩
  ·exact ⟨ha, hb, by omega, hz⟩
  ·exact ⟨ha, by omega, by omega, hz⟩
  ·exact ⟨by omega, by omega, by omega, h6⟩
theorem zp_iff (q i h : Int) (pr : Bool) : ((⟨q, i, h, pr⟩ : Y.Po) = Y.zp) ↔ (q = 0 /\ i = 0 /\ h = 0 /\ pr = false) := by
 unfold Y.zp
 rw [Y.Po.mk.injEq]
def body (k : Int) (L : List Int) : (Int × Int × Int × Y.Po) × List Int :=
 if k = 0 \/ k = 1 then ((L.headD 0 / 32, L.headD 0 % 32 / 8, L.headD 0 % 8, Y.zp), L.tail)
 else if k = 2 \/ k = 4 then ((L.headD 0 / 8, L.headD 0 % 8, 0, Y.zp), L.tail)
 else if k = 3 \/ k = 5 then ((L.headD 0, 0, 0, Y.zp), L.tail)
 else if k = 6 then ((0, 0, 0, ⟨L.headD 0, L.tail.headD 0, L.tail.tail.headD 0, decide (L.tail.tail.tail.headD 0 = 1)⟩), L.tail.tail.tail.tail)
 else ((0, 0, 0, Y.zp), L)
def one (t : Int) (L : List Int) : Y.Ev × List Int :=
 let h := L.headD 0
 let x := body (h % 16) L.tail
 (⟨h % 16, Go.RowKit.wrap64 (t + h / 16), x.1.1, x.1.2.1, x.1.2.2.1, x.1.2.2.2⟩, x.2)
end N
end Go.Proofs.YtnbkkjcmblfhpaaGreat
namespace Go.Proofs.YtnbkkjcmblfhpaaGreat
namespace J
open Y
def setT (n : Int) (x : L.Ls) : L.Ls := { x with t := n }
def settled (s : St) (n : Int) : St := { s with now := n, l := s.l.map (setT n), h := L.clean s.h n }
def can (s : St) (n : Int) : Prop := May s /\ s.now <= n /\ n <= 1073741824
instance (s : St) (n : Int) : Decidable (can s n) := by unfold can; exact inferInstance
def pools (s : St) (e : Ev) : List O.Pl × Int :=
 if e.k = 2 then O.add s.ps (E.no s.d) e.a e.b
 else if e.k = 3 then O.drain s.ps (E.no s.d) e.a
 else if e.k = 4 then O.size s.ps (E.no s.d) e.a e.b (L.busy s.l)
 else O.gone s.ps (E.no s.d) e.a (L.busy s.l)
def lsOf (e : Ev) : L.Ls := ⟨e.a, e.b, e.c, e.t, e.t⟩
def made (s : St) (e : Ev) : Option St :=
 if e.k = 0 then (if (L.put s.l (lsOf e)).2 = true then some { s with l := (L.put s.l (lsOf e)).1 } else none)
 else if e.k = 1 then (match get s e.b e.c with | some x => if x.s = e.a then some (free1 s x e.t) else none | none => none)
 else if e.k = 6 then some { s with p := e.p }
 else if (pools s e).2 = 0 then some { s with ps := (pools s e).1 } else none
def fits (s : St) (e : Ev) : Option St := match made s e with | some u => if May u then some u else none | none => none
def apply (s : St) (e : Ev) : St × Int :=
 if ¬ May s \/ ¬ N.May e then (s, 1)
 else if e.t < s.now then (s, 10)
 else match fits (settled s e.t) e with | some u => (u, 0) | none => (s, 2)
def from' (s : St) : St -> List Ev -> St × Int
 | t, [] => (t, 0)
 | t, e :: l => if (apply t e).2 = 0 then from' s (apply t e).1 l else (s, (apply t e).2)
def all (s : St) (l : List Ev) : St × Int := from' s s l
end J
end Go.Proofs.YtnbkkjcmblfhpaaGreat
namespace Go.Proofs.YtnbkkjcmblfhpaaGreat
open Go.RowKit
def Z.zig (n : Int) : Int := if n < -274877906944 \/ 274877906944 < n then -1 else if n < 0 then 2 * -n - 1 else 2 * n
def Z.zag (k : Int) : Int := if k < 0 \/ 549755813888 < k then 0 else if k % 2 = 1 then -((k + 1) / 2) else k / 2
theorem Z.zig_in {n : Int} (h : -274877906944 <= n /\ n <= 274877906944) : Z.zig n = if n < 0 then 2 * -n - 1 else 2 * n := by unfold Z.zig; rw [if_neg (by omega)]
theorem Z.zig_out {n : Int} (h : ¬ (-274877906944 <= n /\ n <= 274877906944)) : Z.zig n = -1 := by unfold Z.zig; rw [if_pos (by omega)]
theorem Z.zig_bd {n : Int} (h : -274877906944 <= n /\ n <= 274877906944) : 0 <= Z.zig n /\ Z.zig n <= 549755813888 := by rw [Z.zig_in h]; split <;> omega
theorem Z.zag_bd (k : Int) : -274877906944 <= Z.zag k /\ Z.zag k <= 274877906944 := by unfold Z.zag; split; omega; split <;> omega
theorem Z.zag_zig {n : Int} (h : -274877906944 <= n /\ n <= 274877906944) : Z.zag (Z.zig n) = n := by
 have := Z.zig_bd h
 unfold Z.zag; rw [if_neg (by omega)]; rw [Z.zig_in h] at *
 split <;> split at * <;> omega
def Z.isl (n : Int) : Prop := 0 <= n /\ n < 274877906944
instance (n : Int) : Decidable (Z.isl n) := inferInstanceAs (Decidable (_ /\ _))
def Z.pl : Int -> List Int -> List Int
 | _, [] => []
 | p, n :: r => Z.zig (n - p) :: Z.pl n r
def Z.un : Int -> List Int -> Option (List Int)
 | _, [] => some []
 | p, k :: r => if Z.zig (Z.zag k) = k /\ Z.isl (p + Z.zag k) then (Z.un (p + Z.zag k) r).map (fun l => (p + Z.zag k) :: l) else none
theorem Z.pl_len : ∀ (p : Int) (L : List Int), (Z.pl p L).length = L.length
 | _, [] => rfl
 | _, n :: r => by simp [Z.pl, Z.pl_len n r]
theorem Z.pl_isn : ∀ (p : Int) (L : List Int), Z.isl p -> (∀ n ∈ L, Z.isl n) -> ∀ k ∈ Z.pl p L, M.isn k
 | _, [], _, _ => by simp [Z.pl]
 | p, n :: r, hp, h => by
  have hn := h n (by simp)
  unfold Z.isl at hp hn
  intro k hk
  rcases List.mem_cons.1 hk with rfl | hk
  ·have := Z.zig_bd (n := n - p) (by omega); unfold M.isn; omega
  ·exact Z.pl_isn n r hn (fun x hx => h x (by simp [hx])) k hk
theorem Z.un_some : ∀ (ps : List Int) (p : Int) (l : List Int), Z.isl p -> (Z.un p ps = some l ↔ (Z.pl p l = ps /\ ∀ n ∈ l, Z.isl n))
 | [], p, l, _ => by
  constructor
  ·intro h; simp [Z.un] at h; subst h; exact ⟨rfl, by simp⟩
  ·rintro ⟨h, _⟩
   cases l with
   | nil => rfl
   | cons n r => simp [Z.pl] at h
 | k :: r, p, l, hp => by
  constructor
  ·intro h
   unfold Z.un at h
   split at h
   ·next hc =>
    rw [Option.map_eq_some_iff] at h
    obtain ⟨l', hl, rfl⟩ := h
    obtain ⟨h1, h2⟩ := (Z.un_some r _ l' hc.2).1 hl
    refine ⟨?_, ?_⟩
    ·simp only [Z.pl, h1]
     rw [show p + Z.zag k - p = Z.zag k by omega, hc.1]
    ·intro n hn
     rcases List.mem_cons.1 hn with rfl | hn
     ·exact hc.2
     ·exact h2 n hn
   ·cases h
  ·rintro ⟨h1, h2⟩
   cases l with
   | nil => simp [Z.pl] at h1
   | cons n l' =>
    simp only [Z.pl, List.cons.injEq] at h1
    obtain ⟨hk, hr⟩ := h1
    have hn := h2 n (by simp)
    have hd : Z.zag k = n - p := by rw [<- hk]; unfold Z.isl at hp hn; exact Z.zag_zig (by omega)
    have he : p + Z.zag k = n := by omega
    unfold Z.un
    rw [he, if_pos ⟨by rw [hd, hk], hn⟩, (Z.un_some r n l' hn).2 ⟨hr, fun x hx => h2 x (by simp [hx])⟩]
    rfl
def Z.steps (L : List Int) : Option (List Int) := if L.length <= 400 /\ ∀ n ∈ L, Z.isl n then some ((Z.pl 0 L).flatMap M.put) else none
noncomputable def Z.sums (b : List Int) : Option (List Int) := (M.read b).bind (Z.un 0)
theorem Z.steps_some {L b : List Int} : Z.steps L = some b ↔ (L.length <= 400 /\ (∀ n ∈ L, Z.isl n) /\ b = (Z.pl 0 L).flatMap M.put) := by
 unfold Z.steps
 constructor
 ·intro h
  split at h
  ·next hh => exact ⟨hh.1, hh.2, by simpa using h.symm⟩
  ·cases h
 ·rintro ⟨h1, h2, rfl⟩
  rw [if_pos ⟨h1, h2⟩]
theorem Z.steps_all {L : List Int} (h1 : L.length <= 400) (h2 : ∀ n ∈ L, Z.isl n) : M.all (Z.pl 0 L) = Z.steps L := by
 rw [Z.steps_some.2 ⟨h1, h2, rfl⟩]
 exact znc.2 ⟨by rw [Z.pl_len]; exact h1, Z.pl_isn 0 L (by unfold Z.isl; omega) h2, rfl⟩
theorem Z.steps_bad {L : List Int} {n : Int} (hm : n ∈ L) (h : ¬ Z.isl n) : Z.steps L = none := by unfold Z.steps; rw [if_neg]; intro hh; exact h (hh.2 n hm)
theorem Z.steps_long {L : List Int} (h : 400 < L.length) : Z.steps L = none := by unfold Z.steps; rw [if_neg]; omega
theorem Z.sums_some {b l : List Int} : Z.sums b = some l ↔ Z.steps l = some b := by
 have h0 : Z.isl 0 := by unfold Z.isl; omega
 unfold Z.sums
 rw [Option.bind_eq_some_iff]
 constructor
 ·rintro ⟨ps, h1, h2⟩
  obtain ⟨h3, h4⟩ := (Z.un_some ps 0 l h0).1 h2
  obtain ⟨k1, k2, k3⟩ := znc.1 (read_some.1 h1)
  subst h3
  exact Z.steps_some.2 ⟨by rw [Z.pl_len] at k1; exact k1, h4, k3⟩
 ·intro h
  obtain ⟨h1, h2, h3⟩ := Z.steps_some.1 h
  exact ⟨Z.pl 0 l, read_some.2 (znc.2 ⟨by rw [Z.pl_len]; exact h1, Z.pl_isn 0 l h0 h2, h3⟩), (Z.un_some _ 0 l h0).2 ⟨rfl, h2⟩⟩
theorem Z.steps_inj {l k b : List Int} (h : Z.steps l = some b) (h' : Z.steps k = some b) : l = k := by
 have h1 := Z.sums_some.2 h
 have h2 := Z.sums_some.2 h'
 rw [h1] at h2; cases h2; rfl
theorem Z.steps_byte {L b : List Int} (h : Z.steps L = some b) : ∀ c ∈ b, (Lit.int .u8 c).wf = true := by
 obtain ⟨h1, h2, rfl⟩ := Z.steps_some.1 h
 intro c hc
 obtain ⟨n, _, hn⟩ := List.mem_flatMap.1 hc
 exact zn4 hn
theorem Z.steps_wf (L : List Int) : ∀ c ∈ (Z.steps L).getD [], (Lit.int .u8 c).wf = true := by
 cases hr : Z.steps L with
 | none => simp
 | some b => simpa using Z.steps_byte hr
end Go.Proofs.YtnbkkjcmblfhpaaGreat
namespace Go.Proofs.YtnbkkjcmblfhpaaGreat
open Go.RowKit
def K.val (B : Nat) : List Int -> Nat
 | [] => 0
 | d :: r => d.toNat + B * K.val B r
def K.dig (B : Nat) : Nat -> Nat -> List Int
 | 0, _ => []
 | n + 1, N => ((N % B : Nat) : Int) :: K.dig B n (N / B)
def K.isd (B : Nat) (L : List Int) : Prop := ∀ d ∈ L, 0 <= d /\ d < (B : Int)
instance (B : Nat) (L : List Int) : Decidable (K.isd B L) := inferInstanceAs (Decidable (∀ d ∈ L, 0 <= d /\ d < (B : Int)))
theorem K.dig_len (B : Nat) : ∀ (n N : Nat), (K.dig B n N).length = n
 | 0, _ => rfl
 | n + 1, N => by simp [K.dig, K.dig_len B n]
theorem K.dig_isd {B : Nat} (hB : 0 < B) : ∀ (n N : Nat), K.isd B (K.dig B n N)
 | 0, _ => by simp [K.dig, K.isd]
 | n + 1, N => by
  intro d hd
  rcases List.mem_cons.1 hd with rfl | hd
  ·have := Nat.mod_lt N hB; omega
  ·exact K.dig_isd hB n (N / B) d hd
theorem K.isd_tail {B : Nat} {d : Int} {r : List Int} (h : K.isd B (d :: r)) : K.isd B r := fun x hx => h x (by simp [hx])
theorem K.dig_val {B : Nat} : ∀ (L : List Int), K.isd B L -> K.dig B L.length (K.val B L) = L
 | [], _ => rfl
 | d :: r, h => by
  obtain ⟨h0, h1⟩ := h d (by simp)
  obtain ⟨e, rfl⟩ : ∃ e : Nat, d = e := ⟨d.toNat, by omega⟩
  have he : e < B := by omega
  simp only [List.length_cons, K.dig, K.val, Int.toNat_natCast]
  rw [Nat.add_mul_mod_self_left, Nat.mod_eq_of_lt he, Nat.add_mul_div_left _ _ (by omega), Nat.div_eq_of_lt he, Nat.zero_add, K.dig_val r (K.isd_tail h)]
theorem K.val_dig (B : Nat) : ∀ (n N : Nat), K.val B (K.dig B n N) = N % B ^ n
 | 0, N => by simp [K.dig, K.val, Nat.mod_one]
 | n + 1, N => by
  simp only [K.dig, K.val, Int.toNat_natCast]
  rw [K.val_dig B n, Nat.pow_succ, Nat.mul_comm (B ^ n) B, Nat.mod_mul]
theorem K.val_lt {B : Nat} : ∀ (L : List Int), K.isd B L -> K.val B L < B ^ L.length
 | [], _ => by simp [K.val]
 | d :: r, h => by
  obtain ⟨h0, h1⟩ := h d (by simp)
  have ih := K.val_lt r (K.isd_tail h)
  simp only [K.val, List.length_cons, Nat.pow_succ]
  have h2 : d.toNat < B := by omega
  have h3 : B * (K.val B r + 1) <= B * B ^ r.length := Nat.mul_le_mul_left _ ih
  rw [Nat.mul_comm (B ^ r.length) B]
  rw [Nat.mul_add] at h3
  omega
theorem K.dig_add (B : Nat) : ∀ (n m N : Nat), K.dig B (n + m) N = K.dig B n N ++ K.dig B m (N / B ^ n)
 | 0, m, N => by simp [K.dig]
 | n + 1, m, N => by
  rw [Nat.add_right_comm]
  simp only [K.dig, List.cons_append]
  rw [K.dig_add B n m, Nat.div_div_eq_div_mul, Nat.pow_succ, Nat.mul_comm (B ^ n) B]
theorem K.dig_take {B n m N : Nat} (h : n <= m) : (K.dig B m N).take n = K.dig B n N := by
 have e := K.dig_add B n (m - n) N
 rw [show n + (m - n) = m by omega] at e
 rw [e, List.take_left' (K.dig_len _ _ _)]
theorem K.dig_get (B : Nat) : ∀ (n N j : Nat), j < n -> (K.dig B n N).getD j 0 = ((N / B ^ j % B : Nat) : Int)
 | 0, _, _, h => by omega
 | n + 1, N, 0, _ => by simp [K.dig]
 | n + 1, N, j + 1, h => by
  simp only [K.dig, List.getD_cons_succ]
  rw [K.dig_get B n _ j (by omega), Nat.div_div_eq_div_mul, Nat.pow_succ, Nat.mul_comm (B ^ j) B]
theorem K.dig_zero (B : Nat) : ∀ n, K.dig B n 0 = List.replicate n 0
 | 0 => rfl
 | n + 1 => by simp [K.dig, K.dig_zero B n, List.replicate_succ]
theorem K.val_get {B : Nat} {L : List Int} (h : K.isd B L) {j : Nat} (hj : j < L.length) : (L.getD j 0) = ((K.val B L / B ^ j % B : Nat) : Int) := by
 rw [<- K.dig_get B L.length _ j hj, K.dig_val L h]
def K.bit (N at_ : Nat) : Nat := N / 2 ^ at_ % 2
theorem K.bit_lt (N k : Nat) : K.bit N k < 2 := Nat.mod_lt _ (by decide)
theorem K.bit_test (N k : Nat) : K.bit N k = (N.testBit k).toNat := (Nat.toNat_testBit N k).symm
theorem K.bit_ge {N k : Nat} (h : K.bit N k = 1) : 2 ^ k <= N := by
 unfold K.bit at h
 rcases Nat.lt_or_ge N (2 ^ k) with h1 | h1
 ·rw [Nat.div_eq_of_lt h1] at h; cases h
 ·exact h1
theorem K.mod_succ (N k : Nat) : N % 2 ^ (k + 1) = N % 2 ^ k + 2 ^ k * K.bit N k := by rw [Nat.pow_succ, Nat.mod_mul]; rfl
theorem K.bit_digit (N : Nat) {w : Nat} (k : Nat) (hw : 0 < w) : K.bit (N / (2 ^ w) ^ (k / w) % 2 ^ w) (k % w) = K.bit N k := by
 have hk := Nat.mod_lt k hw
 rw [<- Nat.pow_mul, K.bit_test, K.bit_test, Nat.testBit_mod_two_pow, Nat.testBit_div_two_pow, Nat.mod_add_div]
 simp [hk]
theorem K.val_bit {w : Nat} {L : List Int} (h : K.isd (2 ^ w) L) {k : Nat} (hw : 0 < w) (hk : k / w < L.length) : K.bit (L.getD (k / w) 0).toNat (k % w) = K.bit (K.val (2 ^ w) L) k := by
 rw [K.val_get h hk, Int.toNat_natCast, K.bit_digit _ _ hw]
theorem K.old_lt {w m : Nat} (N k : Nat) (hk : k / w < m) : ∃ o : Nat, (K.dig (2 ^ w) m (N % 2 ^ k)).getD (k / w) 0 = o /\ o < 2 ^ (k % w) := by
 refine ⟨_, K.dig_get _ _ _ _ hk, ?_⟩
 have h1 : N % 2 ^ k < 2 ^ (w * (k / w)) * 2 ^ (k % w) := by rw [<- Nat.pow_add, Nat.div_add_mod]; exact Nat.mod_lt _ (Nat.two_pow_pos _)
 rw [<- Nat.pow_mul]
 exact Nat.lt_of_le_of_lt (Nat.mod_le _ _) (Nat.div_lt_of_lt_mul h1)
theorem K.dig_step {w : Nat} (hw : 0 < w) : ∀ (m N k : Nat), k / w < m -> (K.dig (2 ^ w) m (N % 2 ^ k)).set (k / w) (((K.dig (2 ^ w) m (N % 2 ^ k)).getD (k / w) 0) + ((K.bit N k * 2 ^ (k % w) : Nat) : Int)) = K.dig (2 ^ w) m (N % 2 ^ (k + 1))
 | 0, _, _, h => absurd h (Nat.not_lt_zero _)
 | m + 1, N, k, h => by
  by_cases hk : k < w
  ·have e0 : k / w = 0 := Nat.div_eq_of_lt hk
   have e1 : k % w = k := Nat.mod_eq_of_lt hk
   have hp : 2 ^ (k + 1) <= 2 ^ w := Nat.pow_le_pow_right (by decide) hk
   have hq : 2 ^ k <= 2 ^ w := Nat.pow_le_pow_right (by decide) (Nat.le_of_lt hk)
   have h1 := Nat.mod_lt N (Nat.two_pow_pos k)
   have h2 := Nat.mod_lt N (Nat.two_pow_pos (k + 1))
   rw [e0, e1]
   simp only [K.dig, List.set_cons_zero, List.getD_cons_zero]
   rw [Nat.mod_eq_of_lt (show N % 2 ^ k < 2 ^ w by omega), Nat.mod_eq_of_lt (show N % 2 ^ (k + 1) < 2 ^ w by omega), Nat.div_eq_of_lt (show N % 2 ^ k < 2 ^ w by omega), Nat.div_eq_of_lt (show N % 2 ^ (k + 1) < 2 ^ w by omega), K.mod_succ, Nat.mul_comm]
   simp
  ·obtain ⟨q, rfl⟩ : ∃ q, k = q + w := ⟨k - w, by omega⟩
   have e0 : (q + w) / w = q / w + 1 := Nat.add_div_right q hw
   have e1 : (q + w) % w = q % w := Nat.add_mod_right q w
   rw [e0] at h
   rw [e0, e1]
   simp only [K.dig, List.set_cons_succ, List.getD_cons_succ]
   have e2 : ∀ j, 2 ^ (j + w) = 2 ^ w * 2 ^ j := fun j => by rw [Nat.add_comm, Nat.pow_add]
   have e3 : K.bit N (q + w) = K.bit (N / 2 ^ w) q := by unfold K.bit; rw [e2, Nat.div_div_eq_div_mul]
   rw [show q + w + 1 = q + 1 + w by omega, e3, e2, e2, Nat.mod_mul_right_mod, Nat.mod_mul_right_mod, Nat.mod_mul_right_div_self, Nat.mod_mul_right_div_self, K.dig_step hw m (N / 2 ^ w) q (by omega)]
theorem K.or_add {o k b : Nat} (ho : o < 2 ^ k) : o ||| b * 2 ^ k = o + b * 2 ^ k := by
 rw [Nat.mul_comm, Nat.or_comm, Nat.add_comm, Nat.two_pow_add_eq_or_of_lt ho]
def K.size (n w : Int) : Int := if 0 <= n /\ n <= 400 /\ 0 <= w /\ w <= 32 then (n * w + 7) / 8 else -1
def K.pack (L : List Int) (w : Int) : Option (List Int) :=
 if L.length <= 400 /\ 0 <= w /\ w <= 32 /\ K.isd (2 ^ w.toNat) L then some (K.dig 256 ((L.length * w.toNat + 7) / 8) (K.val (2 ^ w.toNat) L)) else none
def K.unpack (b : List Int) (n w : Int) : Option (List Int) :=
 if 0 <= n /\ n <= 400 /\ 0 <= w /\ w <= 32 /\ b.length = (n.toNat * w.toNat + 7) / 8 /\ K.val 256 b < 2 ^ (n.toNat * w.toNat) then some (K.dig (2 ^ w.toNat) n.toNat (K.val 256 b)) else none
theorem K.size_in {n w : Nat} (hn : n <= 400) (hw : w <= 32) : K.size n w = (((n * w + 7) / 8 : Nat) : Int) := by
 unfold K.size; rw [if_pos (by omega)]; simp
theorem K.size_no {n w : Int} (h : ¬ (0 <= n /\ n <= 400 /\ 0 <= w /\ w <= 32)) : K.size n w = -1 := by unfold K.size; rw [if_neg h]
theorem K.pack_some {L : List Int} {w : Nat} {b : List Int} : K.pack L w = some b ↔ (L.length <= 400 /\ w <= 32 /\ K.isd (2 ^ w) L /\ b = K.dig 256 ((L.length * w + 7) / 8) (K.val (2 ^ w) L)) := by
 unfold K.pack
 rw [Int.toNat_natCast]
 constructor
 ·intro h
  split at h
  ·next hh => exact ⟨hh.1, by omega, hh.2.2.2, by simpa using h.symm⟩
  ·cases h
 ·rintro ⟨h1, h2, h3, rfl⟩
  rw [if_pos ⟨h1, by omega, by omega, h3⟩]
theorem K.pow_w (w n : Nat) : (2 ^ w) ^ n = 2 ^ (n * w) := by rw [<- Nat.pow_mul, Nat.mul_comm]
theorem K.pow_8 (m : Nat) : 256 ^ m = 2 ^ (8 * m) := by rw [show (256 : Nat) = 2 ^ 8 from rfl, <- Nat.pow_mul]
theorem K.unpack_some {b l : List Int} {n w : Nat} (hb : K.isd 256 b) : K.unpack b n w = some l ↔ (K.pack l w = some b /\ l.length = n) := by
 rw [K.pack_some]
 unfold K.unpack
 rw [Int.toNat_natCast, Int.toNat_natCast]
 constructor
 ·intro h
  split at h
  ·next hh =>
   obtain ⟨h1, h2, h3, h4, h5, h6⟩ := hh
   have h' : K.dig (2 ^ w) n (K.val 256 b) = l := by simpa using h
   subst h'
   have hv : K.val (2 ^ w) (K.dig (2 ^ w) n (K.val 256 b)) = K.val 256 b := by rw [K.val_dig, K.pow_w, Nat.mod_eq_of_lt h6]
   refine ⟨⟨by rw [K.dig_len]; omega, by omega, K.dig_isd (Nat.two_pow_pos w) _ _, ?_⟩, K.dig_len _ _ _⟩
   rw [hv, K.dig_len, <- h5, K.dig_val b hb]
  ·cases h
 ·rintro ⟨⟨h1, h2, h3, h4⟩, rfl⟩
  have hlt := K.val_lt l h3
  rw [K.pow_w] at hlt
  have hle : 2 ^ (l.length * w) <= 256 ^ ((l.length * w + 7) / 8) := by rw [K.pow_8]; exact Nat.pow_le_pow_right (by decide) (by omega)
  have hv : K.val 256 b = K.val (2 ^ w) l := by rw [h4, K.val_dig, Nat.mod_eq_of_lt (Nat.lt_of_lt_of_le hlt hle)]
  rw [if_pos ⟨by omega, by omega, by omega, by omega, by rw [h4, K.dig_len], by rw [hv]; exact hlt⟩, hv, K.dig_val l h3]
theorem K.unpack_w {b : List Int} {n w : Int} {l : List Int} (h : K.unpack b n w = some l) : ∃ m v : Nat, n = m /\ w = v /\ m <= 400 /\ v <= 32 /\ K.unpack b m v = some l := by
 have h' := h
 unfold K.unpack at h
 split at h
 ·next hh =>
  obtain ⟨v, rfl⟩ : ∃ v : Nat, w = v := ⟨w.toNat, by omega⟩
  obtain ⟨m, rfl⟩ : ∃ v : Nat, n = v := ⟨n.toNat, by omega⟩
  exact ⟨m, v, rfl, rfl, by omega, by omega, h'⟩
 ·cases h
theorem K.unpack_size {b : List Int} {n w : Int} {l : List Int} (h : K.unpack b n w = some l) : K.size n w = b.length := by
 unfold K.unpack at h
 split at h
 ·next hh =>
  obtain ⟨v, rfl⟩ : ∃ v : Nat, w = v := ⟨w.toNat, by omega⟩
  obtain ⟨m, rfl⟩ : ∃ v : Nat, n = v := ⟨n.toNat, by omega⟩
  rw [K.size_in (by omega) (by omega)]
  have := hh.2.2.2.2.1
  rw [Int.toNat_natCast, Int.toNat_natCast] at this
  omega
 ·cases h
theorem K.isd_byte {b : List Int} (h : ∀ c ∈ b, (Lit.int .u8 c).wf = true) : K.isd 256 b := fun c hc => by have := bounds_u8 (h c hc); omega
theorem K.byte_isd {b : List Int} (h : K.isd 256 b) : ∀ c ∈ b, (Lit.int .u8 c).wf = true := fun c hc => by
 have := h c hc
 exact WalkArith.wf_u8 (by omega)
theorem K.pack_byte {L : List Int} {w : Int} : K.isd 256 ((K.pack L w).getD []) := by
 unfold K.pack
 split
 ·exact K.dig_isd (by decide) _ _
 ·simp [K.isd]
theorem K.pack_wf (L : List Int) (w : Int) : ∀ c ∈ (K.pack L w).getD [], (Lit.int .u8 c).wf = true := K.byte_isd K.pack_byte
theorem K.pack_len {L : List Int} {w : Nat} {b : List Int} (h : K.pack L w = some b) : b.length = (L.length * w + 7) / 8 := by
 obtain ⟨_, _, _, rfl⟩ := K.pack_some.1 h
 exact K.dig_len _ _ _
theorem K.back {L b : List Int} {w : Nat} (h : K.pack L w = some b) : K.unpack b L.length w = some L := by
 have hb : K.isd 256 b := by have := @K.pack_byte L w; rwa [h] at this
 exact (K.unpack_some hb).2 ⟨h, rfl⟩
theorem K.pack_inj {L M b : List Int} {w : Nat} (h : K.pack L w = some b) (h' : K.pack M w = some b) (hl : L.length = M.length) : L = M := by
 have h1 := K.back h
 have h2 := K.back h'
 rw [hl, h2] at h1
 cases h1; rfl
end Go.Proofs.YtnbkkjcmblfhpaaGreat
namespace Go.Proofs.YtnbkkjcmblfhpaaGreat
namespace J
open Y
def b1 (b : Bool) : Int := if b = true then 1 else 0
def plN : List O.Pl -> List Int
 | [] => []
 | p :: l => p.f :: p.n :: p.s :: plN l
def nums15 (s : St) : List Int := [s.d.b, s.d.k, s.d.c, s.d.j, s.d.lo, s.d.hi, s.d.dy, s.d.bl, s.p.q, s.p.i, s.p.h, b1 s.p.pair, s.now, (s.l.length : Int), (s.h.length : Int)]
def nums (s : St) : List Int := nums15 s ++ plN s.ps
def lN (x : L.Ls) : Int := x.s * 32 + x.a * 8 + x.b
def hN (x : L.T3) : Int := x.a * 8 + x.b
def pt1 (s : St) : Option (List Int) := M.all (nums s)
def pt2 (s : St) : Option (List Int) := K.pack (s.l.map lN) 10
def pt3 (s : St) : Option (List Int) := Z.steps (s.l.map fun x => x.f)
def pt4 (s : St) : Option (List Int) := K.pack (s.h.map hN) 5
def pt5 (s : St) : Option (List Int) := Z.steps (s.h.map fun x => x.x)
def parts (s : St) : List (List Int) := [(pt1 s).getD [], (pt2 s).getD [], (pt3 s).getD [], (pt4 s).getD [], (pt5 s).getD []]
def one (b : List Int) : List Int := M.put (b.length : Int) ++ b
def bytes (s : St) : List Int := (parts s).flatMap one
def ok (s : St) : Prop := May s /\ ∀ x ∈ s.l, x.t = s.now
instance (s : St) : Decidable (ok s) := by unfold ok; exact inferInstance
def put (s : St) : Option (List Int) := if ok s then some (bytes s) else none
theorem put_yes {s : St} (h : ok s) : put s = some (bytes s) := by unfold put; rw [if_pos h]
theorem put_no {s : St} (h : ¬ ok s) : put s = none := by unfold put; rw [if_neg h]
theorem zc7 {s : St} {b : List Int} : put s = some b ↔ ok s /\ b = bytes s := by
 unfold put
 constructor
 ·intro h
  split at h
  ·cases h; exact ⟨by assumption, rfl⟩
  ·cases h
 ·rintro ⟨h, rfl⟩; rw [if_pos h]
theorem plN_len : ∀ (l : List O.Pl), (plN l).length = 3 * l.length
 | [] => rfl
 | p :: l => by simp [plN, plN_len l]; omega
theorem plN_snoc : ∀ (l : List O.Pl) (x : O.Pl), plN (l ++ [x]) = plN l ++ [x.f, x.n, x.s]
 | [], _ => rfl
 | p :: l, x => by simp [plN, plN_snoc l x]
theorem plN_mem : ∀ {l : List O.Pl} {n : Int}, n ∈ plN l -> ∃ p ∈ l, n = p.f \/ n = p.n \/ n = p.s
 | p :: l, n, h => by
  simp only [plN, List.mem_cons] at h
  rcases h with h | h | h | h
  ·exact ⟨p, by simp, .inl h⟩
  ·exact ⟨p, by simp, .inr (.inl h)⟩
  ·exact ⟨p, by simp, .inr (.inr h)⟩
  ·obtain ⟨q, hq, e⟩ := plN_mem h
   exact ⟨q, by simp [hq], e⟩
theorem nums_len (s : St) : (nums s).length = 15 + 3 * s.ps.length := by unfold nums nums15; rw [List.length_append, plN_len]; rfl
theorem ls_in {s : St} (hm : May s) {x : L.Ls} (hx : x ∈ s.l) : (0 <= x.s /\ x.s < 32) /\ (0 <= x.a /\ x.a < 4) /\ (0 <= x.b /\ x.b < 8) /\ 0 <= x.f /\ x.f <= 1073741824 := by
 obtain ⟨m1, m2, m3, m4, m5, m6, m7, m8, m9⟩ := hm
 obtain ⟨k1, k2, k3, k4, k5, k6, k7, k8, k9⟩ := m7 x hx
 have h1 := (E.baseB_iff.1 k1).2
 have h2 := (E.fits_iff.1 m1).ni
 have h3 := blkB_in k2
 have h4 := (E.fits_iff.1 m1).no
 have h5 := nb_in m1
 omega
theorem hd_in {s : St} (hm : May s) {y : L.T3} (hy : y ∈ s.h) : (0 <= y.a /\ y.a < 4) /\ (0 <= y.b /\ y.b < 8) /\ 0 <= y.x /\ y.x <= 1074790400 := by
 obtain ⟨m1, m2, m3, m4, m5, m6, m7, m8, m9⟩ := hm
 obtain ⟨k1, k2, k3, k4⟩ := m9 y hy
 have h3 := blkB_in k1
 have h4 := (E.fits_iff.1 m1).no
 have h5 := nb_in m1
 omega
theorem held_len {s : St} (hm : May s) : s.h.length <= 32 := by
 have := inc_len (l := s.h.map fun x => x.a * 8 + x.b) (a := 0) (b := 32)
  (by
   rw [List.pairwise_map]
   refine List.Pairwise.imp_of_mem (R := LtH) (fun {x y} hx hy h => ?_) hm.2.2.2.2.2.2.2.1
   have e1 := hd_in hm hx
   have e2 := hd_in hm hy
   unfold LtH at h; omega)
  (fun z hz => by
   obtain ⟨x, hx, rfl⟩ := List.mem_map.1 hz
   have := hd_in hm hx; omega)
  (by omega)
 rw [List.length_map] at this
 omega
theorem b1_in (b : Bool) : 0 <= b1 b /\ b1 b <= 1 := by unfold b1; split <;> omega
theorem size_in {b k : Int} (h : 1 <= A.size b k) : (0 <= b /\ b < 4294967296) /\ 0 <= k /\ k <= 32 := by
 have h1 := A.size_pos (b := b) (k := k) (by omega)
 have h2 := h1.1
 unfold A.may at h2
 have := of_decide_eq_true h2
 omega
theorem nums_bd {s : St} (hm : May s) : ∀ n ∈ nums s, 0 <= n /\ n < 4294967296 := by
 have hh := held_len hm
 obtain ⟨m1, m2, m3, m4, m5, m6, m7, m8, m9⟩ := hm
 have hf := E.fits_iff.1 m1
 have h1 := size_in hf.ni.1
 have h2 := size_in hf.no.1
 have h3 := hf.lo
 have h4 := hf.dy
 have h5 := hf.bl
 have h6 := b1_in s.p.pair
 unfold MayP at m2
 intro n hn
 unfold nums nums15 at hn
 rw [List.mem_append] at hn
 rcases hn with hn | hn
 ·simp only [List.mem_cons, List.not_mem_nil, or_false] at hn
  rcases hn with rfl | rfl | rfl | rfl | rfl | rfl | rfl | rfl | rfl | rfl | rfl | rfl | rfl | rfl | rfl <;> omega
 ·obtain ⟨p, hp, e⟩ := plN_mem hn
  have := O.fits_iff.1 (m3.2.2.2.1 p hp)
  have := m3.2.1
  omega
theorem nums_isn {s : St} (hm : May s) : ∀ n ∈ nums s, M.isn n := fun n hn => by
 have := nums_bd hm n hn
 unfold M.isn; omega
theorem nums_few {s : St} (hm : May s) : (nums s).length <= 24 := by
 have := hm.2.2.1.2.2.1
 rw [nums_len]; omega
theorem pt1_yes {s : St} (hm : May s) : pt1 s = some ((nums s).flatMap M.put) := zpa (by have := nums_few hm; omega) (nums_isn hm)
theorem pt1_yes' {s : St} (hm : May s) : pt1 s = some ((pt1 s).getD []) := by rw [pt1_yes hm]; rfl
theorem lN_in {s : St} (hm : May s) : K.isd (2 ^ 10) (s.l.map lN) := by
 intro n hn
 obtain ⟨x, hx, rfl⟩ := List.mem_map.1 hn
 have := ls_in hm hx
 unfold lN
 omega
theorem hN_in {s : St} (hm : May s) : K.isd (2 ^ 5) (s.h.map hN) := by
 intro n hn
 obtain ⟨x, hx, rfl⟩ := List.mem_map.1 hn
 have := hd_in hm hx
 unfold hN
 omega
theorem pt2_yes {s : St} (hm : May s) : pt2 s = some ((pt2 s).getD []) := by
 have h : pt2 s = some _ := (K.pack_some (w := 10)).2 ⟨by rw [List.length_map]; have := hm.2.2.2.2.1; omega, by decide, lN_in hm, rfl⟩
 rw [h]; rfl
theorem pt4_yes {s : St} (hm : May s) : pt4 s = some ((pt4 s).getD []) := by
 have h : pt4 s = some _ := (K.pack_some (w := 5)).2 ⟨by rw [List.length_map]; have := held_len hm; omega, by decide, hN_in hm, rfl⟩
 rw [h]; rfl
theorem pt3_yes {s : St} (hm : May s) : pt3 s = some ((pt3 s).getD []) := by
 have h : pt3 s = some _ := Z.steps_some.2 ⟨by rw [List.length_map]; have := hm.2.2.2.2.1; omega, fun n hn => by
  obtain ⟨x, hx, rfl⟩ := List.mem_map.1 hn
  have := ls_in hm hx
  unfold Z.isl; omega, rfl⟩
 rw [h]; rfl
theorem pt5_yes {s : St} (hm : May s) : pt5 s = some ((pt5 s).getD []) := by
 have h : pt5 s = some _ := Z.steps_some.2 ⟨by rw [List.length_map]; have := held_len hm; omega, fun n hn => by
  obtain ⟨x, hx, rfl⟩ := List.mem_map.1 hn
  have := hd_in hm hx
  unfold Z.isl; omega, rfl⟩
 rw [h]; rfl
theorem put_len5 {n : Int} (h0 : 0 <= n) (h1 : n < 4294967296) : 1 <= (M.put n).length /\ (M.put n).length <= 5 := by
 rw [M.put_yes (by omega) (by omega)]
 exact ⟨M.puts_pos _, M.puts_len_le 4 _ (by omega)⟩
theorem flat_bd {l : List Int} (h : ∀ n ∈ l, 0 <= n /\ n < 4294967296) : (l.flatMap M.put).length <= 5 * l.length := by
 induction l with
 | nil => simp
 | cons n l ih =>
  have h1 := ih (fun x hx => h x (by simp [hx]))
  have h2 := put_len5 (h n (by simp)).1 (h n (by simp)).2
  rw [List.flatMap_cons, List.length_append, List.length_cons]; omega
theorem pl_bd : ∀ (l : List Int) (p : Int), (0 <= p /\ p < 2147483648) -> (∀ n ∈ l, 0 <= n /\ n < 2147483648) -> ∀ k ∈ Z.pl p l, 0 <= k /\ k < 4294967296
 | [], _, _, _, k, hk => by simp [Z.pl] at hk
 | n :: l, p, hp, h, k, hk => by
  have hn := h n (by simp)
  simp only [Z.pl, List.mem_cons] at hk
  rcases hk with rfl | hk
  ·rw [Z.zig_in (by omega)]; split <;> omega
  ·exact pl_bd l n hn (fun x hx => h x (by simp [hx])) k hk
theorem steps_bd {l b : List Int} (h : Z.steps l = some b) (hb : ∀ n ∈ l, 0 <= n /\ n < 2147483648) : b.length <= 5 * l.length := by
 obtain ⟨-, -, rfl⟩ := Z.steps_some.1 h
 have := flat_bd (pl_bd l 0 (by omega) hb)
 rwa [Z.pl_len] at this
theorem parts_len {s : St} (hm : May s) : ((pt1 s).getD []).length <= 120 /\ ((pt2 s).getD []).length <= 40 /\ ((pt3 s).getD []).length <= 160 /\ ((pt4 s).getD []).length <= 20 /\ ((pt5 s).getD []).length <= 160 := by
 have hl := hm.2.2.2.2.1
 have hh := held_len hm
 refine ⟨?_, ?_, ?_, ?_, ?_⟩
 ·rw [pt1_yes hm]
  have h1 := flat_bd (nums_bd hm)
  have h2 := nums_few hm
  simp only [Option.getD_some]; omega
 ·have := K.pack_len (w := 10) (pt2_yes hm)
  rw [List.length_map] at this; omega
 ·have := steps_bd (pt3_yes hm) (fun n hn => by
   obtain ⟨x, hx, rfl⟩ := List.mem_map.1 hn
   have := ls_in hm hx; omega)
  rw [List.length_map] at this; omega
 ·have := K.pack_len (w := 5) (pt4_yes hm)
  rw [List.length_map] at this; omega
 ·have := steps_bd (pt5_yes hm) (fun n hn => by
   obtain ⟨x, hx, rfl⟩ := List.mem_map.1 hn
   have := hd_in hm hx; omega)
  rw [List.length_map] at this; omega
theorem one_len {b : List Int} {k : Nat} (h : b.length <= k) (hk : k < 16384) : (one b).length <= k + 2 /\ M.isn (b.length : Int) := by
 have h1 : (M.put (b.length : Int)).length <= 2 := by
  rw [M.put_yes (by omega) (by omega)]
  exact M.puts_len_le 1 _ (by omega)
 unfold one M.isn
 rw [List.length_append]; omega
theorem bytes_len {s : St} (hm : May s) : (bytes s).length <= 600 := by
 obtain ⟨h1, h2, h3, h4, h5⟩ := parts_len hm
 have a1 := (one_len h1 (by omega)).1
 have a2 := (one_len h2 (by omega)).1
 have a3 := (one_len h3 (by omega)).1
 have a4 := (one_len h4 (by omega)).1
 have a5 := (one_len h5 (by omega)).1
 unfold bytes parts
 simp only [List.flatMap_cons, List.flatMap_nil, List.append_nil, List.length_append]
 omega
theorem parts_isn {s : St} (hm : May s) : ∀ b ∈ parts s, M.isn (b.length : Int) := by
 obtain ⟨h1, h2, h3, h4, h5⟩ := parts_len hm
 intro b hb
 unfold parts at hb
 simp only [List.mem_cons, List.not_mem_nil, or_false] at hb
 unfold M.isn
 rcases hb with rfl | rfl | rfl | rfl | rfl <;> omega
theorem parts_byte (s : St) : ∀ b ∈ parts s, ∀ c ∈ b, (Lit.int .u8 c).wf = true := by
 intro b hb
 unfold parts at hb
 simp only [List.mem_cons, List.not_mem_nil, or_false] at hb
 rcases hb with rfl | rfl | rfl | rfl | rfl
 ·exact zsn _
 ·exact K.pack_wf _ _
 ·exact Z.steps_wf _
 ·exact K.pack_wf _ _
 ·exact Z.steps_wf _
theorem bytes_byte (s : St) : ∀ c ∈ bytes s, (Lit.int .u8 c).wf = true := by
 intro c hc
 obtain ⟨b, hb, hc⟩ := List.mem_flatMap.1 hc
 unfold one at hc
 rcases List.mem_append.1 hc with hc | hc
 ·exact zn4 hc
 ·exact parts_byte s b hb c hc
theorem one_head {b : List Int} (h : M.isn (b.length : Int)) (r : List Int) : M.head (one b ++ r) = some ((b.length : Int), (M.put (b.length : Int)).length) := by
 unfold one
 rw [List.append_assoc]
 exact zoi h _
theorem one_append {b c r t : List Int} (hb : M.isn (b.length : Int)) (hc : M.isn (c.length : Int)) (h : one b ++ r = one c ++ t) : b = c /\ r = t := by
 have h1 := one_head hb r
 rw [h, one_head hc t] at h1
 have e : (c.length : Int) = (b.length : Int) := by simpa using congrArg (Option.map Prod.fst) h1
 have e2 : c.length = b.length := by omega
 unfold one at h
 rw [e2, List.append_assoc, List.append_assoc] at h
 have h2 := List.append_cancel_left h
 exact List.append_inj h2 e2.symm
theorem parts_append : ∀ (P Q : List (List Int)) (r : List Int), P.length = Q.length -> (∀ b ∈ P, M.isn (b.length : Int)) -> (∀ b ∈ Q, M.isn (b.length : Int)) -> P.flatMap one ++ r = Q.flatMap one -> P = Q /\ r = []
 | [], [], r, _, _, _, h => ⟨rfl, by simpa using h⟩
 | [], _ :: _, _, h, _, _, _ => by simp at h
 | _ :: _, [], _, h, _, _, _ => by simp at h
 | b :: P, c :: Q, r, hl, hp, hq, h => by
  rw [List.flatMap_cons, List.flatMap_cons, List.append_assoc] at h
  obtain ⟨rfl, h2⟩ := one_append (hp b (by simp)) (hq c (by simp)) h
  obtain ⟨rfl, h3⟩ := parts_append P Q r (by simpa using hl) (fun x hx => hp x (by simp [hx])) (fun x hx => hq x (by simp [hx])) h2
  exact ⟨rfl, h3⟩
theorem plN_inj : ∀ {l k : List O.Pl}, plN l = plN k -> l = k
 | [], [], _ => rfl
 | [], _ :: _, h => by simp [plN] at h
 | _ :: _, [], h => by simp [plN] at h
 | p :: l, q :: k, h => by
  simp only [plN, List.cons.injEq] at h
  obtain ⟨h1, h2, h3, h4⟩ := h
  rw [plN_inj h4]
  congr 1
  cases p; cases q; simp_all
theorem b1_inj {a b : Bool} (h : b1 a = b1 b) : a = b := by
 cases a <;> cases b <;> simp [b1] at h ⊢
theorem map_inj_of {α β : Type} {f : α -> β} : ∀ {l k : List α}, (∀ x ∈ l, ∀ y ∈ k, f x = f y -> x = y) -> l.map f = k.map f -> l = k
 | [], [], _, _ => rfl
 | [], _ :: _, _, h => by simp at h
 | _ :: _, [], _, h => by simp at h
 | x :: l, y :: k, hf, h => by
  simp only [List.map_cons, List.cons.injEq] at h
  rw [hf x (by simp) y (by simp) h.1, map_inj_of (fun a ha b hb => hf a (by simp [ha]) b (by simp [hb])) h.2]
theorem two_map {α : Type} {f g : α -> Int} : ∀ {l k : List α}, l.map f = k.map f -> l.map g = k.map g -> l.map (fun x => (f x, g x)) = k.map (fun x => (f x, g x))
 | [], [], _, _ => rfl
 | [], _ :: _, h, _ => by simp at h
 | _ :: _, [], h, _ => by simp at h
 | x :: l, y :: k, h, h2 => by
  simp only [List.map_cons, List.cons.injEq] at h h2 ⊢
  exact ⟨by rw [h.1, h2.1], two_map h.2 h2.2⟩
theorem parts_inj {s t : St} (hs : ok s) (ht : ok t) (h : parts s = parts t) : s = t := by
 obtain ⟨ms, ls⟩ := hs
 obtain ⟨mt, lt⟩ := ht
 unfold parts at h
 simp only [List.cons.injEq, and_true] at h
 obtain ⟨h1, h2, h3, h4, h5⟩ := h
 rw [pt1_yes ms, pt1_yes mt] at h1
 have e1 := zqi (nums_isn ms) (nums_isn mt) (by simpa using h1)
 unfold nums at e1
 obtain ⟨e2, e3⟩ := List.append_inj e1 rfl
 unfold nums15 at e2
 simp only [List.cons.injEq, and_true] at e2
 obtain ⟨d1, d2, d3, d4, d5, d6, d7, d8, p1, p2, p3, p4, n1, l1, l2⟩ := e2
 have e4 : s.l.length = t.l.length := by omega
 have e5 : s.h.length = t.h.length := by omega
 have g2 := K.pack_inj (w := 10) (pt2_yes ms) (by rw [h2]; exact pt2_yes mt) (by simpa using e4)
 have g3 := Z.steps_inj (pt3_yes ms) (by rw [h3]; exact pt3_yes mt)
 have g4 := K.pack_inj (w := 5) (pt4_yes ms) (by rw [h4]; exact pt4_yes mt) (by simpa using e5)
 have g5 := Z.steps_inj (pt5_yes ms) (by rw [h5]; exact pt5_yes mt)
 refine st_ext ?_ ?_ n1 (plN_inj e3) ?_ ?_
 ·obtain ⟨⟨_, _, _, _, _, _, _, _⟩, _, _, _, _, _⟩ := s
  obtain ⟨⟨_, _, _, _, _, _, _, _⟩, _, _, _, _, _⟩ := t
  simp only at d1 d2 d3 d4 d5 d6 d7 d8
  simp only [d1, d2, d3, d4, d5, d6, d7, d8]
 ·have p4' := b1_inj p4
  obtain ⟨_, ⟨_, _, _, _⟩, _, _, _, _⟩ := s
  obtain ⟨_, ⟨_, _, _, _⟩, _, _, _, _⟩ := t
  simp only at p1 p2 p3 p4'
  simp only [p1, p2, p3, p4']
 ·refine map_inj_of (f := fun x => (lN x, x.f)) (fun x hx y hy e => ?_) (two_map g2 g3)
  have a1 := ls_in ms hx
  have a2 := ls_in mt hy
  have a3 := ls x hx
  have a4 := lt y hy
  simp only [Prod.mk.injEq] at e
  unfold lN at e
  exact ls_ext (by omega) (by omega) (by omega) e.2 (by omega)
 ·refine map_inj_of (f := fun x => (hN x, x.x)) (fun x hx y hy e => ?_) (two_map g4 g5)
  have a1 := hd_in ms hx
  have a2 := hd_in mt hy
  simp only [Prod.mk.injEq] at e
  unfold hN at e
  have b1 : x.a = y.a := by omega
  have b2 : x.b = y.b := by omega
  obtain ⟨_, _, _⟩ := x
  obtain ⟨_, _, _⟩ := y
  simp only at b1 b2 e
  simp only [b1, b2, e.2]
theorem put_prefix {s t : St} {b r : List Int} (hs : put s = some b) (ht : put t = some (b ++ r)) : s = t /\ r = [] := by
 obtain ⟨gs, d⟩ := zc7.1 hs
 obtain ⟨gt, e⟩ := zc7.1 ht
 obtain ⟨h1, h2⟩ := parts_append (parts s) (parts t) r rfl (parts_isn gs.1) (parts_isn gt.1) (by rw [d] at e; exact e)
 exact ⟨parts_inj gs gt h1, h2⟩
theorem put_inj {s t : St} {b : List Int} (hs : put s = some b) (ht : put t = some b) : s = t := (put_prefix (r := []) hs (by simpa using ht)).1
open Classical in
noncomputable def read (b : List Int) : Option St := if h : ∃ s, put s = some b then some (Classical.choose h) else none
theorem read_some {s : St} {b : List Int} : read b = some s ↔ put s = some b := by
 unfold read
 constructor
 ·intro h
  split at h
  ·next hh => cases h; exact Classical.choose_spec hh
  ·cases h
 ·intro h
  have hh : ∃ s, put s = some b := ⟨s, h⟩
  rw [dif_pos hh, put_inj h (Classical.choose_spec hh)]
theorem read_none {b : List Int} (h : ∀ s, put s ≠ some b) : read b = none := by
 cases hr : read b with
 | none => rfl
 | some s => exact absurd (read_some.1 hr) (h s)
end J
end Go.Proofs.YtnbkkjcmblfhpaaGreat
namespace Go.Proofs.YtnbkkjcmblfhpaaGreat
namespace G
abbrev T := D.T × Int × Int
def last (d : D.T) : Int := match d.2.getLast? with | some f => f.1 | none => 0
def may (w : T) : Prop := D.may w.1 /\ w.1.2 ≠ [] /\ w.2.1 = last w.1 /\ 0 <= w.2.2 /\ w.2.2 <= 1073741824
instance (w : T) : Decidable (may w) := inferInstanceAs (Decidable (_ /\ _ /\ _ /\ _ /\ _))
def steps (no : Int) (b : List Int) : Nat -> D.T -> D.T × Int
 | 0, d => if (D.make d no).2 = 0 then (if (D.write (D.make d no).1 no b).2 = 0 then D.sync (D.write (D.make d no).1 no b).1 no else D.write (D.make d no).1 no b) else D.make d no
 | 1, d => if (D.write d no b).2 = 0 then D.sync (D.write d no b).1 no else D.write d no b
 | 2, d => D.sync d no
 | _, d => (d, 0)
def step (no : Int) (b : List Int) : Nat -> D.T -> D.T × Int
 | 0, d => D.make d no
 | 1, d => D.write d no b
 | _, d => D.sync d no
theorem steps_yes {no : Int} {b : List Int} {j : Nat} {d x : D.T} (hj : j < 3) (h : step no b j d = (x, 0)) : steps no b j d = steps no b (j + 1) x := by
 obtain rfl | rfl | rfl : j = 0 \/ j = 1 \/ j = 2 := by omega
 ·simp only [step] at h; simp only [steps, h, if_true]
 ·simp only [step] at h; simp only [steps, h, if_true]
 ·simp only [step] at h; simp only [steps, h]
theorem steps_no {no : Int} {b : List Int} {j : Nat} {d x : D.T} {e : Int} (hj : j < 3) (h : step no b j d = (x, e)) (he : e ≠ 0) : steps no b j d = (x, e) := by
 obtain rfl | rfl | rfl : j = 0 \/ j = 1 \/ j = 2 := by omega
 ·simp only [step] at h; simp only [steps, h, if_neg he]
 ·simp only [step] at h; simp only [steps, h, if_neg he]
 ·simp only [step] at h; simp only [steps, h]
def zw : T := ((0, []), 0, 0)
def recS (s : Y.St) : List Int := R.bytes (1, (J.put s).getD [])
def next (d : D.T) : Int := IntKind.i64.wrap (last d + 1)
def new (d : D.T) (s : Y.St) : T × Int :=
 if (J.put s).isSome then (if (steps (next d) (recS s) 0 d).2 = 0 then (((steps (next d) (recS s) 0 d).1, next d, s.now), 0) else (zw, (steps (next d) (recS s) 0 d).2)) else (zw, 1)
def recE (w : T) (l : List Y.Ev) : List Int := R.bytes (2, (N.put w.2.2 l).getD [])
def canAdd (w : T) (l : List Y.Ev) : Prop := may w /\ l ≠ [] /\ (N.put w.2.2 l).isSome = true /\ R.ok (2, (N.put w.2.2 l).getD [])
instance (w : T) (l : List Y.Ev) : Decidable (canAdd w l) := inferInstanceAs (Decidable (_ /\ _ /\ _ /\ _))
def add (w : T) (l : List Y.Ev) : T × Int :=
 if canAdd w l then (if (steps w.2.1 (recE w l) 1 w.1).2 = 0 then (((steps w.2.1 (recE w l) 1 w.1).1, w.2.1, N.last w.2.2 l), 0) else (w, (steps w.2.1 (recE w l) 1 w.1).2)) else (w, 1)
def long (d : D.T) : Int := match d.2.getLast? with | some f => f.2.1.length | none => 0
def turn (w : T) (s : Y.St) : T × Int :=
 if may w then (if long w.1 < 300 then (w, 0) else if (new w.1 s).2 = 0 then ((new w.1 s).1, 0) else (w, (new w.1 s).2)) else (w, 1)
noncomputable def first (b : List Int) : Option (Y.St × Int) :=
 if (R.get b 0).1 = 0 /\ (R.get b 0).2.1.1 = 1 then (match J.read (R.get b 0).2.1.2 with | some s => some (s, (R.get b 0).2.2) | none => none) else none
noncomputable def isOld (l : List D.F) (now : Int) : Bool :=
 match l with
 | _ :: f :: _ => (match first f.2.1 with | some x => decide (x.1.now + 1000 <= now) | none => false)
 | _ => false
noncomputable def cut (now : Int) : List D.F -> List D.F
 | [] => []
 | f :: l => if isOld (f :: l) now = true then cut now l else f :: l
noncomputable def trim (w : T) (now : Int) : T := if may w then ((w.1.1, cut now w.1.2), w.2) else w
end G
end Go.Proofs.YtnbkkjcmblfhpaaGreat
namespace Go.Proofs.YtnbkkjcmblfhpaaGreat
open Go.RowKit
theorem zt4 {w : World} {b i : Nat} {u : Value} {p : Addr} (hne : p.block ≠ b) : (w.setCell ⟨b, i, none⟩ u).cell? p = w.cell? p := by
 unfold World.cell?
 rw [Below.heap_setCell w ⟨b, i, none⟩ u p.block hne]
theorem zf1 {B : Nat} {w w' : World} {b : Nat} (h : Below B w w') (hb : B <= b) (i j : Nat) (u v : Value) : Below B w ((w'.setCell ⟨b, i, none⟩ u).setCell ⟨b, j, none⟩ v) := (h.setCell (p := ⟨b, i, none⟩) hb u).setCell (p := ⟨b, j, none⟩) hb v
theorem zfv.drew {k : IntKind} {w : World} {a : Option Addr} {cap : Nat} {L : List Int} (h : zfv k w a cap L) : zfv k w.drew a cap L := h
end Go.Proofs.YtnbkkjcmblfhpaaGreat
namespace Go.Proofs.YtnbkkjcmblfhpaaGreat
open Go.RowKit
def zf8 (w : World) (k : Int) (a : Option Addr) (n cap : Nat) : World := w.alloc (.cells #[.int .i64 k, .slice a n cap] 68)
theorem ztz (w : World) (k : Int) (a : Option Addr) (n cap : Nat) : Below w.heap.size w (zf8 w k a n cap) := (Below.refl _ w).alloc (Nat.le_refl _) _
theorem zu7 (w : World) (k : Int) (a : Option Addr) (n cap : Nat) : (zf8 w k a n cap).heap.size = w.heap.size + 1 := by simp [zf8]
theorem zv4 (w : World) (k : Int) (a : Option Addr) (n cap : Nat) {w' : World} (h : Below (zf8 w k a n cap).heap.size (zf8 w k a n cap) w') : w'.cell? ⟨w.heap.size, 0, none⟩ = some (.int .i64 k) :=
 (h.cell (p := ⟨w.heap.size, 0, none⟩) (by rw [zu7]; exact Nat.lt_succ_self _)).trans ((Blok.new w _ _).cell 0)
theorem zut (w : World) (k : Int) (a : Option Addr) (n cap : Nat) {w' : World} (h : Below (zf8 w k a n cap).heap.size (zf8 w k a n cap) w') : w'.cell? ⟨w.heap.size, 1, none⟩ = some (.slice a n cap) :=
 (h.cell (p := ⟨w.heap.size, 1, none⟩) (by rw [zu7]; exact Nat.lt_succ_self _)).trans ((Blok.new w _ _).cell 1)
end Go.Proofs.YtnbkkjcmblfhpaaGreat
namespace Go.Proofs.YtnbkkjcmblfhpaaGreat
set_option maxHeartbeats 800000
set_option maxRecDepth 100000
open Go.RowKit
theorem zof (n : Int) (w : World) (h0 : 0 <= n) (h1 : n <= 1099511627776) :
  Calls Tryz.prog 162 #[.int .i64 n] w fun e w' => e = .returned (.bool true) /\ w = w' := by
 go_enter Tryz.func162, Tryz.ntmps162
 go_wp2
 go_ret
 exact ⟨rfl, rfl⟩
theorem zon (n : Int) (w : World) (h : ¬ (0 <= n /\ n <= 1099511627776)) :
  Calls Tryz.prog 162 #[.int .i64 n] w fun e w' => e = .returned (.bool false) /\ w = w' := by
 by_cases h0 : 0 <= n
 ·have h1 : decide (n <= 1099511627776) = false := by simp; omega
  clear h
  go_enter Tryz.func162, Tryz.ntmps162
  go_wp2
  go_ret
  exact ⟨rfl, rfl⟩
 ·have h1 : n < 0 := by omega
  clear h h0
  go_enter Tryz.func162, Tryz.ntmps162
  go_wp2
  go_ret
  exact ⟨rfl, rfl⟩
theorem zqv (n : Int) (w : World) (h : ¬ (0 <= n /\ n <= 1099511627776)) :
  Calls Tryz.prog 83 #[.int .i64 n] w (zsr w.heap.size n w) := by
 have hp := M.put_no h
 have H := Zh h; clear h
 go_enter Tryz.func83, Tryz.ntmps83
 go_wp2_with (go_at_call 162; refine (zon _ _ H.out).mono ?_; rintro e w' ⟨rfl, rfl⟩)
 go_ret
 exact ⟨_, rfl, by rw [hp]; exact World.ownsRow_nil _ _ _ _, Below.refl _ _⟩
theorem zp8 (n : Int) (w : World) (h0 : 0 <= n) (h1 : n <= 1099511627776) :
  Calls Tryz.prog 83 #[.int .i64 n] w (zsr w.heap.size n w) := by
 obtain ⟨i0, hi, hz0, hz1, hz2⟩ := info_parts zrf
 have hp6 := M.puts_len6 (n := n.toNat) (by omega)
 have HP : Hid (M.put n = M.puts n.toNat) := Zh (M.put_yes h0 h1)
 go_enter Tryz.func83, Tryz.ntmps83
 go_wp2_with (go_at_call 162; refine (zof _ _ h0 h1).mono ?_; rintro e w' ⟨rfl, rfl⟩)
 go_loopw [0, 3] (fun x v wr => ∃ (m : Nat) (acc : List Int), x = .int .i64 m /\ m <= 1099511627776 /\ Hid (acc ++ M.puts m = M.puts n.toNat) /\ wr.ownsRow w.heap.size 5 1 v acc.length (acc.map (Value.int .u8)) /\ Below w.heap.size w wr) (fun x _ _ => (intOf x).toNat)
 case atStart => exact ⟨n.toNat, [], by rw [Int.toNat_of_nonneg h0], by omega, Zh rfl, World.ownsRow_nil _ _ _ _, Below.refl _ _⟩
 case round =>
  obtain ⟨m, acc, rfl, hm, HA, hown, hB⟩ := hrel
  have hla : acc.length <= 6 := by have := congrArg List.length HA.out; simp at this; omega
  have hBs := hB.size
  by_cases hge : 128 <= m
  ·have hmod : (m : Int) % 128 < 128 := by omega
   go_wp2_with (at_builtin; refine wpList_append_own _ rfl _ _ 51 rfl w.heap.size 5 i0 (.int .u8 0) 1 1 Tryz.underlying51 hi hz0 hz1 hz2 rfl (by decide) _ _ _ rfl (hown.alloc _) ⟨wr.heap.size, 0, none⟩ 1 1 [.int .u8 ((m : Int) % 128 + 128)] rfl rfl (cell_one_new _ _ _) (by simp [Value.oneCell']) (by unfold maxLen; omega) (by omega) (by simp; omega) ?_; intro v' w1 hown' hgrow _)
   go_roundw
   case rel => exact ⟨m / 128, acc ++ [(m : Int) % 128 + 128], by go_num, by omega, Zh (by rw [<- HA.out, M.puts_ge hge]; simp), by simpa using hown', zng hown (by omega) hB hgrow⟩
   case measure => simp [intOf]; omega
  ·have hlt : (m : Int) < 128 := by omega
   go_wp2_with (at_builtin; refine wpList_append_own _ rfl _ _ 51 rfl w.heap.size 5 i0 (.int .u8 0) 1 1 Tryz.underlying51 hi hz0 hz1 hz2 rfl (by decide) _ _ _ rfl (hown.alloc _) ⟨wr.heap.size, 0, none⟩ 1 1 [.int .u8 (m : Int)] rfl rfl (cell_one_new _ _ _) (by simp [Value.oneCell']) (by unfold maxLen; omega) (by omega) (by simp; omega) ?_; intro v' w1 hown' hgrow _)
   go_ret
   refine ⟨_, rfl, ?_, zng hown (by omega) hB hgrow⟩
   rw [HP.out, <- HA.out, M.puts_lt (by omega)]
   simpa using hown'
theorem zpe (n : Int) (w : World) : Calls Tryz.prog 83 #[.int .i64 n] w (zsr w.heap.size n w) := by
 by_cases h : 0 <= n /\ n <= 1099511627776
 ·exact zp8 n w h.1 h.2
 ·exact zqv n w h
theorem zvh (n : Int) (w : World) : Calls Tryz.prog 83 #[.int .i64 n] w fun e w' => ∃ a cap n', e = .returned (.slice a n' cap) /\ Hid ((M.put n).length = n') /\ Hid (zfv .u8 w' a cap (M.put n)) /\ Below w.heap.size w w' :=
 (zpe n w).mono fun e w' ⟨v, he, ho, hb⟩ => by
  obtain ⟨a', cap', rfl, _, hr⟩ := zex ho (zyw n)
  exact ⟨a', cap', _, he, rfl, hr, hb⟩
end Go.Proofs.YtnbkkjcmblfhpaaGreat
namespace Go.Proofs.YtnbkkjcmblfhpaaGreat
open Go.RowKit
end Go.Proofs.YtnbkkjcmblfhpaaGreat
namespace Go.Proofs.YtnbkkjcmblfhpaaGreat
set_option maxRecDepth 100000
open Go.RowKit
def C.n (x : BitVec 32) : Int := x.toNat
def C.b (b : Bool) : Int := if b then 1 else 0
theorem C.n_bd (x : BitVec 32) : 0 <= C.n x /\ C.n x <= 4294967295 := by have := x.isLt; unfold C.n; omega
theorem C.msb_of (x : BitVec 32) : C.n x / 2147483648 = C.b x.msb := by
 unfold C.n C.b
 have := x.isLt
 rw [BitVec.msb_eq_decide]
 by_cases h : 2147483648 <= x.toNat
 ·simp [h]; omega
 ·simp [h]; omega
theorem C.kept_of (x : BitVec 32) (b : Bool) : bits .xor .u8 (C.n x / 2147483648) (C.b b) = C.b (x.msb ^^ b) := by
 rw [C.msb_of]
 cases x.msb <;> cases b <;> decide
theorem C.shl_of (x : BitVec 32) : C.n x * 2 % 4294967296 = C.n (x <<< 1) := by
 unfold C.n
 rw [BitVec.toNat_shiftLeft, Nat.shiftLeft_eq]
 simp
theorem C.xor_of (x : BitVec 32) : bits .xor .u32 (C.n x) 79764919 = C.n (x ^^^ 0x04c11db7#32) := by
 have := u32_xor_nat x.toNat 79764919 x.isLt (by decide)
 unfold C.n
 rw [BitVec.toNat_xor]
 exact this
theorem zxg (B : Nat) (x : BitVec 32) (b : Bool) (w : World) (hb : Blok w B 297 #[.int .u32 (C.n x)]) :
  Calls Tryz.prog 284 #[.pointer (some ⟨B, 0, none⟩), .int .u8 (C.b b)] w fun e w' => e = .returned (.tuple #[]) /\ Hid (Blok w' B 297 #[.int .u32 (C.n (C.take x b))]) /\ w.grownBy w' (some B) := by
 have c0 := Zv hb 0 (.int .u32 (C.n x))
 have f0 : w.frozen? ⟨B, 0, none⟩ = false := hb.frozen 0
 have hx := C.n_bd x
 have HB := Zh hb
 have HK := Zh (C.kept_of x b)
 have HS := Zh (C.shl_of x)
 have HX := Zh (C.xor_of (x <<< 1))
 have HM := Zh (C.n_bd (x <<< 1))
 have HT : Hid (C.take x b = if (x.msb ^^ b) then (x <<< 1) ^^^ 0x04c11db7#32 else x <<< 1) := Zh rfl
 obtain ⟨kept, hkept⟩ : ∃ q, (x.msb ^^ b) = q := ⟨_, rfl⟩
 rw [hkept] at HK HT
 obtain ⟨n, hn⟩ : ∃ n, C.n x = n := ⟨_, rfl⟩
 rw [hn] at c0 hx HK HS HB
 clear hkept hn hb
 cases kept with
 | false =>
  have hk : (bits BinOp.xor IntKind.u8 (n / 2147483648) (C.b b) == 1) = false := by rw [HK.out]; rfl
  go_enter Tryz.func284, Tryz.ntmps284
  go_wp2
  go_end0
  refine ⟨rfl, Zh ?_, grownBy_setCell' w B _⟩
  have h1 := HB.out.set 0 (.int .u32 (n * 2 % 4294967296))
  rw [HT.out, if_neg (by decide), <- HS.out]
  exact h1
 | true =>
  have hk : (bits BinOp.xor IntKind.u8 (n / 2147483648) (C.b b) == 1) = true := by rw [HK.out]; rfl
  go_enter Tryz.func284, Tryz.ntmps284
  go_wp2
  go_end0
  refine ⟨rfl, Zh ?_, (grownBy_setCell' w B _).trans (grownBy_setCell' _ B _)⟩
  have h1 := (HB.out.set 0 (.int .u32 (n * 2 % 4294967296))).set 0 (.int .u32 (bits .xor .u32 (n * 2 % 4294967296) 79764919))
  have e1 : bits .xor .u32 (n * 2 % 4294967296) 79764919 = C.n (C.take x b) := by
   rw [HT.out, if_pos trivial, <- HX.out]
   exact congrArg (bits .xor .u32 · 79764919) HS.out
  rw [e1] at h1 ⊢
  exact h1
theorem C.not_of (x : BitVec 32) : bits .xor .u32 4294967295 (C.n x) = C.n (~~~x) := by
 have := u32_xor_nat 4294967295 x.toNat (by decide) x.isLt
 have h2 : (BitVec.allOnes 32 ^^^ x).toNat = 4294967295 ^^^ x.toNat := by rw [BitVec.toNat_xor]; rfl
 have h3 : BitVec.allOnes 32 ^^^ x = ~~~x := by
  apply BitVec.eq_of_getLsbD_eq
  intro i hi
  rw [BitVec.getLsbD_xor, BitVec.getLsbD_not, BitVec.getLsbD_allOnes]
  simp [hi]
 rw [h3] at h2
 unfold C.n
 rw [h2]
 exact this
theorem C.bit_at {L : List Int} {k i : Nat} (hc : 0 <= L.getD k 0 /\ L.getD k 0 <= 255) (hi : i < 8) : bits .and .u8 (L.getD k 0 / 2 ^ (7 - i)) 1 = C.b (C.bit L (8 * k + i)) := by
 obtain ⟨c, hc'⟩ : ∃ c : Nat, L.getD k 0 = c := ⟨(L.getD k 0).toNat, by omega⟩
 unfold C.bit
 rw [show (8 * k + i) / 8 = k by omega, show 7 - (8 * k + i) % 8 = 7 - i by omega, hc', Int.toNat_natCast]
 have e : ((c : Int) / 2 ^ (7 - i)) = ((c / 2 ^ (7 - i) : Nat) : Int) := by simp
 have h := Nat.div_le_self c (2 ^ (7 - i))
 have h2 := u8_and_nat (c / 2 ^ (7 - i)) 1 (by omega) (by omega)
 rw [Nat.and_one_is_mod] at h2
 rw [e]
 refine h2.trans ?_
 rw [Nat.testBit_eq_decide_div_mod_eq]
 unfold C.b
 have := Nat.mod_two_eq_zero_or_one (c / 2 ^ (7 - i))
 rcases this with h3 | h3 <;> simp [h3]
theorem zyn (B : Nat) (x : BitVec 32) (b : Bool) (v : Int) (w : World) (hv : v = C.b b) (hb : Blok w B 297 #[.int .u32 (C.n x)]) :
  Calls Tryz.prog 284 #[.pointer (some ⟨B, 0, none⟩), .int .u8 v] w fun e w' => e = .returned (.tuple #[]) /\ Hid (Blok w' B 297 #[.int .u32 (C.n (C.take x b))]) /\ w.grownBy w' (some B) := by
 subst hv; exact zxg B x b w hb
theorem zx3 (a : Option Addr) (len cap : Nat) (L : List Int) (s : BitVec 32) (w : World) (hl : L.length = len) (h : zfv .u8 w a cap L) :
  Calls Tryz.prog 230 #[.int .u32 (C.n s), .slice a len cap] w fun e w' => e = .returned (.int .u32 (C.n (C.more s L))) /\ Below w.heap.size w w' := by
 have HL := Zh hl
 have HR := Zh h
 have HS := Zh (C.not_of s)
 have hs := C.n_bd s
 have hlm : len <= 9223372036854775807 := by have := h.1; unfold maxLen at this; omega
 obtain ⟨n, hn⟩ : ∃ n, C.n s = n := ⟨_, rfl⟩
 rw [hn] at HS hs ⊢
 clear hl h hn
 go_enter Tryz.func230, Tryz.ntmps230
 go_wp2
 go_loopg [15] len (fun g s15 wr => ∃ k : Nat, s15 = .int .i64 k /\ k + g = len /\ Hid (Blok wr w.heap.size 297 #[.int .u32 (C.n (C.rn (~~~s) (C.bit L) (8 * k)))]) /\ Hid (Below w.heap.size w wr))
 case atStart =>
  refine ⟨0, rfl, by omega, Zh ?_, Zh ((Below.refl _ w).alloc (Nat.le_refl _) _)⟩
  have e : C.n (C.rn (~~~s) (C.bit L) (8 * 0)) = bits .xor .u32 IntKind.u32.max n := HS.out.symm
  rw [e]
  exact Blok.new w _ _
 case round =>
  obtain ⟨k, rfl, hk, HB, HW⟩ := hrel
  obtain ⟨w0, rfl⟩ : ∃ w0, w0 = wr := ⟨_, rfl⟩
  by_cases hlt : k < len
  ·obtain ⟨b, off, rfl, hb, hc⟩ := zl4 HR.out (by rw [HL.out]; exact hlt)
   have hc1 := zo9 HR.out.2.1 (L.getD k 0) (by have := HL.out; simp [show k < L.length by omega])
   have HBIT : Hid (∀ i, i < 8 -> bits .and .u8 (L.getD k 0 / 2 ^ (7 - i)) 1 = C.b (C.bit L (8 * k + i))) := Zh (fun i hi => C.bit_at hc1 hi)
   obtain ⟨c, hcc⟩ : ∃ c, L.getD k 0 = c := ⟨_, rfl⟩
   rw [hcc] at hc hc1 HBIT
   have hcell : w0.cell? ⟨b, off + k, none⟩ = some (.int .u8 c) := (HW.out.cell (p := ⟨b, off + k, none⟩) hb).trans hc
   clear hcc hc hb
   go_wp2
   go_loopg [19] 8 (fun g s19 wx => ∃ i : Nat, s19 = .int .i64 i /\ i + g = 8 /\ Hid (Blok wx w.heap.size 297 #[.int .u32 (C.n (C.rn (~~~s) (C.bit L) (8 * k + i)))]) /\ Hid (Below w.heap.size w wx))
   case atStart => exact ⟨0, rfl, by omega, HB, HW⟩
   case round =>
    obtain ⟨i, rfl, hi, HBI, HWI⟩ := hrel
    obtain ⟨w1, rfl⟩ : ∃ w1, w1 = wr := ⟨_, rfl⟩
    by_cases hi8 : i < 8
    ·go_wp2_with fail
     refine (zyn _ _ (C.bit L (8 * k + i)) _ _ (HBIT.out i hi8) HBI.out).mono ?_
     rintro e w2 ⟨rfl, HB2, hg2⟩
     have HG2 := Zh hg2
     clear hg2
     go_wp2
     go_roundg (8 - (i + 1))
     case rel => exact ⟨i + 1, by go_num, by omega, HB2, Zh (HWI.out.grown HG2.out (Nat.le_of_lt HBI.out.lt) (fun j e => by cases e; exact Nat.le_refl _))⟩
     case measure => omega
    ·obtain rfl : i = 8 := by omega
     go_wp2
     go_roundg (len - (k + 1))
     case rel => exact ⟨k + 1, by go_num, by omega, HBI, HWI⟩
     case measure => omega
  ·obtain rfl : k = len := by omega
   have e : C.rn (~~~s) (C.bit L) (8 * k) = C.run (~~~s) L := by unfold C.run; rw [HL.out]
   have c0 := HB.out.cell 0
   have HN := Zh (C.not_of (C.run (~~~s) L))
   rw [e] at c0
   clear e
   go_wp2
   go_ret
   exact ⟨znj HN.out, HW.out⟩
theorem zx4 (a : Option Addr) (len cap : Nat) (L : List Int) (w : World) (hl : L.length = len) (h : zfv .u8 w a cap L) :
  Calls Tryz.prog 163 #[.slice a len cap] w fun e w' => e = .returned (.int .u32 (C.n (C.sum L))) /\ Below w.heap.size w w' := by
 have HL := Zh hl
 have HR := Zh h
 clear hl h
 go_enter Tryz.func163, Tryz.ntmps163
 go_wp2_with fail
 refine (zx3 a len cap L 0 _ HL.out HR.out).mono ?_
 rintro e w1 ⟨rfl, hb1⟩
 have W1 := Zh hb1
 clear hb1
 go_wp2
 go_ret
 exact ⟨rfl, W1.out⟩
end Go.Proofs.YtnbkkjcmblfhpaaGreat
namespace Go.Proofs.YtnbkkjcmblfhpaaGreat
set_option maxHeartbeats 1000000
set_option maxRecDepth 100000
open Go.RowKit
theorem zv5 (x : Addr) (n cap : Nat) (L : List Int) (w : World) (hn16 : n <= 100000) (hl : L.length = n) (h : zfv .u8 w (some x) cap L) :
  Calls Tryz.prog 104 #[.slice (some x) n cap] w fun e w' => ∃ v, e = .returned v /\ w'.ownsRow w.heap.size 5 1 v n (L.map (Value.int .u8)) /\ Below w.heap.size w w' := by
 obtain ⟨i0, hi, hz0, hz1, hz2⟩ := info_parts zrf
 have he : ∀ w : World, (binOp .eql 51 (.slice (some x) n cap) (.slice none 0 0)).run Tryz.prog w = .ok (.bool false) w := fun _ => by kernel_rfl
 have hn : n <= cap /\ cap <= maxLen := by have := h.1; omega
 have HL := Zh hl
 have HR := Zh h
 clear hl h
 go_enter Tryz.func104, Tryz.ntmps104
 go_wp2_with (at_builtin; refine znf _ rfl _ _ 51 rfl w.heap.size 5 i0 (.int .u8 0) 1 Tryz.underlying51 hi hz0 hz1 hz2 rfl _ 0 [] rfl ((Blok.new w 5 #[]).own (xs := []) (Nat.le_refl _) rfl (Nat.le_refl _) (by omega) rfl) .u8 _ n cap L rfl (HR.out.below ((Below.refl _ w).alloc (Nat.le_refl _) _)) HL.out (fun h => by cases h) (by unfold maxLen; omega) (by omega) (by simp) ?_; intro v' w2 hown' hgrow)
 go_ret
 rw [Nat.zero_add] at hown'
 exact ⟨v', rfl, by simpa using hown', ((Below.refl _ w).alloc (Nat.le_refl _) _).grown hgrow (by simp) (fun k ek => by cases ek; exact Nat.le_refl _)⟩
theorem zuq (a : Option Addr) (n cap : Nat) (L : List Int) (w : World) (hn16 : n <= 100000) (hl : L.length = n) (h : zfv .u8 w a cap L) :
  Calls Tryz.prog 104 #[.slice a n cap] w fun e w' => ∃ v, e = .returned v /\ w'.ownsRow w.heap.size 5 1 v n (L.map (Value.int .u8)) /\ Below w.heap.size w w' := by
 cases a with
 | some x => exact zv5 x n cap L w hn16 hl h
 | none =>
  have hL : L = [] := by
   rcases h.2.2 with h | ⟨b, off, h, _⟩
   ·exact h
   ·cases h
  subst hL
  obtain rfl : n = 0 := hl.symm
  have he : ∀ w : World, (binOp .eql 51 (.slice none 0 cap) (.slice none 0 0)).run Tryz.prog w = .ok (.bool true) w := fun _ => by kernel_rfl
  clear h hl
  go_enter Tryz.func104, Tryz.ntmps104
  go_wp2
  go_ret
  exact ⟨_, rfl, World.ownsRow_nil _ _ _ _, Below.refl _ _⟩
theorem zvs (a : Option Addr) (n cap : Nat) (L : List Int) (w : World) (hn16 : n <= 100000) (hl : L.length = n) (h : zfv .u8 w a cap L) :
  Calls Tryz.prog 104 #[.slice a n cap] w fun e w' => ∃ a' cap', e = .returned (.slice a' n cap') /\ Hid (zfv .u8 w' a' cap' L) /\ Below w.heap.size w w' :=
 (zuq a n cap L w hn16 hl h).mono fun e w' ⟨v, he, ho, hb⟩ => by
  obtain ⟨a', cap', rfl, hr⟩ := zsq ho h.2.1
  exact ⟨a', cap', he, hr, hb⟩
def zph (L K : List Int) (w : World) (e : Ending) (w' : World) : Prop := e = .returned (.bool (decide (L = K))) /\ Below w.heap.size w w'
theorem zq4 (a a' : Option Addr) (n m cap cap' : Nat) (L K : List Int) (w : World) (hl : L.length = n) (hk : K.length = m) (h : n ≠ m) :
  Calls Tryz.prog 118 #[.slice a n cap, .slice a' m cap'] w (zph L K w) := by
 have HD := Zh (decide_eq_false (fun e : L = K => h (by rw [<- hl, <- hk, e])))
 have hd : ((n : Int) != m) = true := by simp; omega
 clear h hl hk
 go_enter Tryz.func118, Tryz.ntmps118
 go_wp2
 go_ret
 exact ⟨by rw [HD.out]; rfl, Below.refl _ _⟩
theorem zos (a a' : Option Addr) (cap cap' : Nat) (w : World) :
  Calls Tryz.prog 118 #[.slice a 0 cap, .slice a' 0 cap'] w (zph [] [] w) := by
 go_enter Tryz.func118, Tryz.ntmps118
 go_wp2
 refine wp_loop_rounds 1 ?_
 rw [rounds_succ]
 go_wp2
 go_ret
 exact ⟨rfl, Below.refl _ _⟩
theorem zpy {L K : List Int} {k : Nat} {x y : Int} (hx : L.getD k 0 = x) (hy : K.getD k 0 = y) (h : (x != y) = true) : decide (L = K) = false := by
 refine decide_eq_false fun e => ?_
 rw [<- hx, <- hy, e] at h
 simp at h
theorem zq5 {L K : List Int} {k : Nat} {x y : Int} (hl : k < L.length) (hk : k < K.length) (h : L.take k = K.take k) (hx : L.getD k 0 = x) (hy : K.getD k 0 = y) (he : (x != y) = false) : L.take (k + 1) = K.take (k + 1) := by
 rw [List.take_succ_eq_append_getElem hl, List.take_succ_eq_append_getElem hk, h]
 simp [hl] at hx
 simp [hk] at hy
 simp at he
 rw [hx, hy, he]
theorem zq6 {L K : List Int} {k : Nat} (hl : L.length <= k) (hk : K.length <= k) (h : L.take k = K.take k) : decide (L = K) = true := by
 rw [List.take_of_length_le hl, List.take_of_length_le hk] at h
 exact decide_eq_true h
theorem zsk (b off b' off' n cap cap' : Nat) (L K : List Int) (w : World) (hl : L.length = n) (hk : K.length = n) (hm : n <= 9223372036854775807) (hb : b < w.heap.size) (hb' : b' < w.heap.size)
  (hc : ∀ i, i < L.length -> w.cell? ⟨b, off + i, none⟩ = some (.int .u8 (L.getD i 0))) (hc' : ∀ i, i < K.length -> w.cell? ⟨b', off' + i, none⟩ = some (.int .u8 (K.getD i 0))) :
  Calls Tryz.prog 118 #[.slice (some ⟨b, off, none⟩) n cap, .slice (some ⟨b', off', none⟩) n cap'] w (zph L K w) := by
 have HL := Zh hl
 have HK := Zh hk
 clear hl hk
 go_enter Tryz.func118, Tryz.ntmps118
 go_wp2
 go_loopw [13] (fun i wr => ∃ k : Nat, i = .int .i64 k /\ k <= n /\ Hid (L.take k = K.take k) /\ Below w.heap.size w wr) (fun i _ => n - (intOf i).toNat)
 case atStart => exact ⟨0, rfl, by omega, Zh (by simp), Below.refl _ _⟩
 case round =>
  obtain ⟨k, rfl, hkn, HT, hB⟩ := hrel
  by_cases hlt : k < n
  ·obtain ⟨x, hx⟩ : ∃ x, L.getD k 0 = x := ⟨_, rfl⟩
   obtain ⟨y, hy⟩ : ∃ y, K.getD k 0 = y := ⟨_, rfl⟩
   have c1 : wr.cell? ⟨b, off + k, none⟩ = some (.int .u8 x) := by rw [<- hx]; exact (hB.cell (p := ⟨b, off + k, none⟩) hb).trans (hc k (by rw [HL.out]; exact hlt))
   have c2 : wr.cell? ⟨b', off' + k, none⟩ = some (.int .u8 y) := by rw [<- hy]; exact (hB.cell (p := ⟨b', off' + k, none⟩) hb').trans (hc' k (by rw [HK.out]; exact hlt))
   have HX := Zh hx
   have HY := Zh hy
   clear hx hy hc hc'
   have hi0 : (0 : Int) <= (k : Int) := by omega
   have hi1 : (k : Int) < (n : Int) := by omega
   go_wp2
   go_quiet (fail)
   go_wp2
   ·have hne : (x != y) = true := by assumption
    go_ret
    exact ⟨by rw [zpy HX.out HY.out hne]; rfl, (hB.trans (zad _ _ _))⟩
   ·have heq : (x != y) = false := by assumption
    go_roundw
    case rel => exact ⟨k + 1, by go_num, by omega, Zh (zq5 (by rw [HL.out]; exact hlt) (by rw [HK.out]; exact hlt) HT.out HX.out HY.out heq), hB.trans (zad _ _ _)⟩
    case measure => simp [intOf]; omega
  ·have HE := Zh (zq6 (by rw [HL.out]; omega) (by rw [HK.out]; omega) HT.out)
   have hd : decide (k < n) = false := by simp; omega
   clear hc hc'
   go_wp2
   go_ret
   exact ⟨by rw [HE.out]; rfl, hB⟩
theorem zpz (a a' : Option Addr) (n m cap cap' : Nat) (L K : List Int) (w : World) (hl : L.length = n) (hk : K.length = m) (h : zfv .u8 w a cap L) (h' : zfv .u8 w a' cap' K) :
  Calls Tryz.prog 118 #[.slice a n cap, .slice a' m cap'] w (zph L K w) := by
 by_cases hnm : n = m
 ·subst hnm
  rcases h.2.2 with rfl | ⟨b, off, rfl, hb, hc⟩
  ·obtain rfl : n = 0 := by simpa using hl.symm
   obtain rfl : K = [] := List.eq_nil_of_length_eq_zero hk
   exact zos a a' cap cap' w
  ·rcases h'.2.2 with rfl | ⟨b', off', rfl, hb', hc'⟩
   ·obtain rfl : n = 0 := by simpa using hk.symm
    obtain rfl : L = [] := List.eq_nil_of_length_eq_zero hl
    exact zos _ _ cap cap' w
   ·exact zsk b off b' off' n cap cap' L K w hl hk (by have := h.1; unfold maxLen at this; omega) hb hb' hc hc'
 ·exact zq4 a a' n m cap cap' L K w hl hk hnm
end Go.Proofs.YtnbkkjcmblfhpaaGreat
