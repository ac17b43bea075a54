/-
  Walks of moorings/mooringsref01.Read (the list whose bytes are given, or none) and moorings/mooringsref01.Ints (are two lists the same), for every slice.
-/
import Derived.Test.YthedkcbkalifgaaLists
import Derived.BigQuiet
import Derived.Deep.QuietTactic
namespace Go.Proofs.Ythedkcbkalifgaa
open Go.RowKit

/-- What Read returns. -/
def ReadIs (b : List Int) (B : Nat) (w : World) (e : Ending) (w' : World) : Prop :=
  ∃ v ok, e = .returned (.tuple #[v, .bool ok]) ∧ ok = (M.read b).isSome ∧ w'.ownsRow B 3 1 v ((M.read b).getD []).length (((M.read b).getD []).map (Value.int .i64)) ∧ Below w.heap.size w w'

theorem ReadIs.no {b : List Int} {B : Nat} {w w' : World} (h : M.read b = none) (hb : Below w.heap.size w w') : ReadIs b B w (.returned (.tuple #[.slice none 0 0, .bool false])) w' := by
  refine ⟨_, _, rfl, ?_, ?_, hb⟩ <;> rw [h]
  · rfl
  · exact World.ownsRow_nil _ _ _ _
theorem ReadIs.yes {b l : List Int} {B : Nat} {v : Value} {w w' : World} (h : M.read b = some l) (ho : w'.ownsRow B 3 1 v l.length (l.map (Value.int .i64))) (hb : Below w.heap.size w w') : ReadIs b B w (.returned (.tuple #[v, .bool true])) w' := by
  refine ⟨_, _, rfl, ?_, ?_, hb⟩ <;> rw [h]
  · rfl
  · exact ho

theorem getIs_of {L : List Int} {p n q : Int} {w : World} (h : M.get L p = (n, q)) {f : FuncId} {args : Array Value} (hc : Calls Try.prog f args w (GetIs L p w)) :
    Calls Try.prog f args w fun e w' => e = .returned (.tuple #[.int .i64 n, .int .i64 q]) ∧ w = w' :=
  hc.mono fun e w' he => by unfold GetIs at he; rw [h] at he; exact he

theorem ownsRow_form {w : World} {B e n : Nat} {v : Value} {xs : List Value} (h : w.ownsRow B e 1 v n xs) : ∃ a cap, v = .slice a n cap := by
  rcases h.2 with ⟨rfl, rfl⟩ | ⟨g, cap, _, rfl, _⟩
  · exact ⟨_, _, rfl⟩
  · exact ⟨_, _, rfl⟩

set_option maxRecDepth 100000 in
set_option maxHeartbeats 1000000 in
theorem refRead_any (a : Option Addr) (len cap : Nat) (L : List Int) (w : World) (hl : L.length = len) (h : RowIn .u8 w a cap L) (h5 : len ≤ 1000000) :
    Calls Try.prog 15 #[.slice a len cap] w (ReadIs L w.heap.size w) := by
  obtain ⟨i0, hi, hz0, hz1, hz2⟩ := info_parts info3
  have HR := Lib.hid h
  have HB := Lib.hid (byte_of h.2.1)
  have HL := Lib.hid hl
  clear h hl
  go_enter Try.func15, Try.ntmps15
  go_wp2
  go_loopw [4, 5] (fun v i wr => ∃ (k : Nat) (l : List Int) (a1 : Option Addr) (cap1 : Nat), v = .slice a1 l.length cap1 ∧ i = .int .i64 k ∧ k ≤ len ∧ l.length ≤ 400 ∧ Hid (Part L l k) ∧ wr.ownsRow w.heap.size 3 1 (.slice a1 l.length cap1) l.length (l.map (Value.int .i64)) ∧ Below w.heap.size w wr) (fun _ i _ => len - (intOf i).toNat)
  case atStart => exact ⟨0, [], none, 0, rfl, rfl, by omega, by simp, Lib.hid (Part.start _), World.ownsRow_nil _ _ _ _, Below.refl _ _⟩
  case round =>
    obtain ⟨k, l, a1, cap1, rfl, rfl, hk, hl4, HP, hown, hB⟩ := hrel
    have hBs := hB.size
    by_cases hlt : k < len
    · have HRr : Hid (RowIn .u8 wr a cap L) := Lib.hid (HR.out.below hB)
      cases hh : M.head (L.drop k) with
      | none =>
        have HG := Lib.hid (get_none hh)
        have HN := Lib.hid (HP.out.fail (by rw [HL.out]; exact hlt) hh)
        clear hh
        go_wp2_with (go_at_call 11; refine (getIs_of HG.out (refGet_any a len cap _ L _ HL.out HRr.out)).mono ?_; rintro e w' ⟨rfl, rfl⟩)
        go_ret2
        exact .no HN.out hB
      | some r =>
        obtain ⟨n, e⟩ := r
        have HG := Lib.hid (get_some hh)
        have HS := HP.out.step HB.out hh
        obtain ⟨hp', he0, _, hn⟩ := HS
        have hke : k + e ≤ len := by have := hp'.1; rw [HL.out] at this; exact this
        have HP' := Lib.hid hp'
        have HW := Lib.hid (wf_num hn)
        clear hp' hh hn
        have hq : ¬ ((k : Int) + e < 0) := by omega
        by_cases h400 : l.length = 400
        · have HN := Lib.hid (HP.out.full (by rw [HL.out]; exact hlt) h400)
          have hd : ((l.length : Int) == 400) = true := by simp; omega
          clear h400
          go_wp2_with (go_at_call 11; refine (getIs_of HG.out (refGet_any a len cap _ L _ HL.out HRr.out)).mono ?_; rintro e w' ⟨rfl, rfl⟩)
          go_ret2
          exact .no HN.out hB
        · have hd : ((l.length : Int) == 400) = false := by simp; omega
          go_wp2_with (first | (go_at_call 11; refine (getIs_of HG.out (refGet_any a len cap _ L _ HL.out HRr.out)).mono ?_; rintro e w' ⟨rfl, rfl⟩) | (at_builtin; refine wpList_append_own _ rfl _ _ 23 rfl w.heap.size 3 i0 (.int .i64 0) 1 8 Try.underlying23 hi hz0 hz1 hz2 rfl (by decide) _ _ _ rfl (hown.alloc _) ⟨wr.heap.size, 0, none⟩ 1 1 [.int .i64 n] rfl rfl (cell_one_new _ _ _) (by simp [Value.oneCell']) (by unfold maxLen; omega) (by omega) (by simp; omega) ?_; intro v' w1 hown' hgrow _; obtain ⟨a2, cap2, rfl⟩ := ownsRow_form hown'))
          go_roundw
          case rel => exact ⟨k + e, l ++ [n], a2, cap2, by simp, by go_num, hke, by simp; omega, HP', by simpa using hown', below_appended hown (by omega) hB hgrow⟩
          case measure => simp [intOf]; omega
    · have HN := Lib.hid (HP.out.done (by rw [HL.out]; omega) hl4)
      have hd : decide (k < len) = false := by simp; omega
      go_wp2
      go_ret2
      exact .yes HN.out hown hB

/-- What Ints returns. -/
def IntsIs (L K : List Int) (w : World) (e : Ending) (w' : World) : Prop := e = .returned (.bool (decide (L = K))) ∧ Below w.heap.size w w'

theorem ints_long (a a' : Option Addr) (n m cap cap' : Nat) (L K : List Int) (w : World) (hl : L.length = n) (hk : K.length = m) (h : n ≠ m) :
    Calls Try.prog 16 #[.slice a n cap, .slice a' m cap'] w (IntsIs L K w) := by
  have HD := Lib.hid (decide_eq_false (fun e : L = K => h (by rw [← hl, ← hk, e])))
  have hd : ((n : Int) != m) = true := by simp; omega
  clear h hl hk
  go_enter Try.func16, Try.ntmps16
  go_wp2
  go_ret
  exact ⟨by rw [HD.out]; rfl, Below.refl _ _⟩

theorem ints_empty (a a' : Option Addr) (cap cap' : Nat) (w : World) :
    Calls Try.prog 16 #[.slice a 0 cap, .slice a' 0 cap'] w (IntsIs [] [] w) := by
  go_enter Try.func16, Try.ntmps16
  go_wp2
  refine wp_loop_rounds 1 ?_
  rw [rounds_succ]
  go_wp2
  go_ret
  exact ⟨rfl, Below.refl _ _⟩

theorem below_drewN (B : Nat) (w : World) : ∀ n, Below B w (w.drewN n)
  | 0 => Below.refl _ _
  | n + 1 => by
    have := below_drewN B w n
    exact ⟨this.os, this.tape, this.output, this.size, this.block⟩

theorem ints_differ {L K : List Int} {k : Nat} {x y : Int} (hx : L.getD k 0 = x) (hy : K.getD k 0 = y) (h : (x != y) = true) : decide (L = K) = false := by
  refine decide_eq_false fun e => ?_
  rw [← hx, ← hy, e] at h
  simp at h
theorem ints_step {L K : List Int} {k : Nat} {x y : Int} (hl : k < L.length) (hk : k < K.length) (h : L.take k = K.take k) (hx : L.getD k 0 = x) (hy : K.getD k 0 = y) (he : (x != y) = false) : L.take (k + 1) = K.take (k + 1) := by
  rw [List.take_succ_eq_append_getElem hl, List.take_succ_eq_append_getElem hk, h]
  simp [hl] at hx
  simp [hk] at hy
  simp at he
  rw [hx, hy, he]
theorem ints_same {L K : List Int} {k : Nat} (hl : L.length ≤ k) (hk : K.length ≤ k) (h : L.take k = K.take k) : decide (L = K) = true := by
  rw [List.take_of_length_le hl, List.take_of_length_le hk] at h
  exact decide_eq_true h

set_option maxRecDepth 100000 in
set_option maxHeartbeats 1000000 in
theorem ints_in (b off b' off' n cap cap' : Nat) (L K : List Int) (w : World) (hl : L.length = n) (hk : K.length = n) (hm : n ≤ 9223372036854775807) (hb : b < w.heap.size) (hb' : b' < w.heap.size)
    (hc : ∀ i, i < L.length → w.cell? ⟨b, off + i, none⟩ = some (.int .i64 (L.getD i 0))) (hc' : ∀ i, i < K.length → w.cell? ⟨b', off' + i, none⟩ = some (.int .i64 (K.getD i 0))) :
    Calls Try.prog 16 #[.slice (some ⟨b, off, none⟩) n cap, .slice (some ⟨b', off', none⟩) n cap'] w (IntsIs L K w) := by
  have HL := Lib.hid hl
  have HK := Lib.hid hk
  clear hl hk
  go_enter Try.func16, Try.ntmps16
  go_wp2
  go_loopw [5] (fun i wr => ∃ k : Nat, i = .int .i64 k ∧ k ≤ n ∧ Hid (L.take k = K.take k) ∧ Below w.heap.size w wr) (fun i _ => n - (intOf i).toNat)
  case atStart => exact ⟨0, rfl, by omega, Lib.hid (by simp), Below.refl _ _⟩
  case round =>
    obtain ⟨k, rfl, hkn, HT, hB⟩ := hrel
    by_cases hlt : k < n
    · obtain ⟨x, hx⟩ : ∃ x, L.getD k 0 = x := ⟨_, rfl⟩
      obtain ⟨y, hy⟩ : ∃ y, K.getD k 0 = y := ⟨_, rfl⟩
      have c1 : wr.cell? ⟨b, off + k, none⟩ = some (.int .i64 x) := by rw [← hx]; exact (hB.cell (p := ⟨b, off + k, none⟩) hb).trans (hc k (by rw [HL.out]; exact hlt))
      have c2 : wr.cell? ⟨b', off' + k, none⟩ = some (.int .i64 y) := by rw [← hy]; exact (hB.cell (p := ⟨b', off' + k, none⟩) hb').trans (hc' k (by rw [HK.out]; exact hlt))
      have HX := Lib.hid hx
      have HY := Lib.hid hy
      clear hx hy hc hc'
      have hi0 : (0 : Int) ≤ (k : Int) := by omega
      have hi1 : (k : Int) < (n : Int) := by omega
      go_wp2
      go_quiet (fail)
      go_wp2
      · have hne : (x != y) = true := by assumption
        go_ret
        exact ⟨by rw [ints_differ HX.out HY.out hne]; rfl, (hB.trans (below_drewN _ _ _))⟩
      · have heq : (x != y) = false := by assumption
        go_roundw
        case rel => exact ⟨k + 1, by go_num, by omega, Lib.hid (ints_step (by rw [HL.out]; exact hlt) (by rw [HK.out]; exact hlt) HT.out HX.out HY.out heq), hB.trans (below_drewN _ _ _)⟩
        case measure => simp [intOf]; omega
    · have HE := Lib.hid (ints_same (by rw [HL.out]; omega) (by rw [HK.out]; omega) HT.out)
      have hd : decide (k < n) = false := by simp; omega
      clear hc hc'
      go_wp2
      go_ret
      exact ⟨by rw [HE.out]; rfl, hB⟩

/-- **Ints**, at whatever two slices. -/
theorem ints_any (a a' : Option Addr) (n m cap cap' : Nat) (L K : List Int) (w : World) (hl : L.length = n) (hk : K.length = m) (h : RowIn .i64 w a cap L) (h' : RowIn .i64 w a' cap' K) :
    Calls Try.prog 16 #[.slice a n cap, .slice a' m cap'] w (IntsIs L K w) := by
  by_cases hnm : n = m
  · subst hnm
    rcases h.2.2 with rfl | ⟨b, off, rfl, hb, hc⟩
    · obtain rfl : n = 0 := by simpa using hl.symm
      obtain rfl : K = [] := List.eq_nil_of_length_eq_zero hk
      exact ints_empty a a' cap cap' w
    · rcases h'.2.2 with rfl | ⟨b', off', rfl, hb', hc'⟩
      · obtain rfl : n = 0 := by simpa using hk.symm
        obtain rfl : L = [] := List.eq_nil_of_length_eq_zero hl
        exact ints_empty _ _ cap cap' w
      · exact ints_in b off b' off' n cap cap' L K w hl hk (by have := h.1; unfold maxLen at this; omega) hb hb' hc hc'
  · exact ints_long a a' n m cap cap' L K w hl hk hnm
end Go.Proofs.Ythedkcbkalifgaa
