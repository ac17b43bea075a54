/-
  The conversion of a slice of bytes to a string, whatever the slice; two such strings are the same just if the bytes are.
-/
import Derived.Test.YthedkcbkalifgaaAwake
import Derived.Laws.BytesString
namespace Go.Proofs.Ythedkcbkalifgaa
open Go.RowKit

/-- The string of bytes. -/
def strOf (L : List Int) : ByteArray := ⟨(L.map fun n => UInt8.ofNat n.toNat).toArray⟩

theorem foldl_push_ints : ∀ (l : List Int) (r : ByteArray), l.foldl (fun r n => r.push (UInt8.ofNat n.toNat)) r = ⟨r.data ++ (l.map fun n => UInt8.ofNat n.toNat).toArray⟩
  | [], r => by simp
  | b :: l, r => by
    simp only [List.foldl_cons, List.map_cons]
    rw [foldl_push_ints l]
    simp [ByteArray.push]

theorem conv_row {w : World} {a : Option Addr} {n cap : Nat} {L : List Int} (h : RowIn .u8 w a cap L) (hn : L.length = n) : (convert 22 9 (.slice a n cap)).run Try.prog w = .ok (.string (strOf L)) w := by
  rw [run_convert_bytes_string w 22 9 5 a n cap Try.underlying22 Try.underlying5 Try.underlying9]
  cases a with
  | none =>
    rcases h.2.2 with rfl | ⟨b, off, he, _⟩
    · rfl
    · cases he
  | some x =>
    have hl := run_loadCells_list (P := Try.prog) w x (L.map (Value.int .u8)) (fun j v hj => by
      rcases h.2.2 with rfl | ⟨b, off, he, _, hc⟩
      · simp at hj
      · cases he
        obtain ⟨hj', hv⟩ := List.getElem?_eq_some_iff.1 hj
        rw [WideShapes.add_plain, hc j (by simpa using hj')]
        rw [← hv]
        simp at hj'
        simp [hj'])
    rw [List.length_map, hn] at hl
    rw [run_bytesToString w x n cap L hl, foldl_push_ints]
    have he0 : ByteArray.empty.data = #[] := rfl
    rw [he0]
    simp [strOf]

theorem u8_inj {a b : Int} (ha : 0 ≤ a ∧ a ≤ 255) (hb : 0 ≤ b ∧ b ≤ 255) (h : UInt8.ofNat a.toNat = UInt8.ofNat b.toNat) : a = b := by
  have := congrArg UInt8.toNat h
  simp at this
  omega

theorem map_u8_inj : ∀ {L K : List Int}, (∀ c ∈ L, 0 ≤ c ∧ c ≤ 255) → (∀ c ∈ K, 0 ≤ c ∧ c ≤ 255) → (L.map fun n => UInt8.ofNat n.toNat) = (K.map fun n => UInt8.ofNat n.toNat) → L = K
  | [], [], _, _, _ => rfl
  | [], _ :: _, _, _, h => by simp at h
  | _ :: _, [], _, _, h => by simp at h
  | a :: L, b :: K, hl, hk, h => by
    simp only [List.map_cons, List.cons.injEq] at h
    rw [u8_inj (hl a (by simp)) (hk b (by simp)) h.1, map_u8_inj (fun c hc => hl c (by simp [hc])) (fun c hc => hk c (by simp [hc])) h.2]

theorem strOf_inj {L K : List Int} (hl : ∀ c ∈ L, (Lit.int .u8 c).wf = true) (hk : ∀ c ∈ K, (Lit.int .u8 c).wf = true) (h : strOf L = strOf K) : L = K := by
  unfold strOf at h
  have h' : (L.map fun n => UInt8.ofNat n.toNat).toArray = (K.map fun n => UInt8.ofNat n.toNat).toArray := by simpa using congrArg ByteArray.data h
  exact map_u8_inj (byte_of hl) (byte_of hk) (by simpa using h')

theorem strOf_append (L K : List Int) : strOf L ++ strOf K = strOf (L ++ K) := by
  unfold strOf
  apply ByteArray.ext
  simp

theorem str_beq {L K : List Int} (hl : ∀ c ∈ L, (Lit.int .u8 c).wf = true) (hk : ∀ c ∈ K, (Lit.int .u8 c).wf = true) : ((strOf L).toList == (strOf K).toList) = decide (L = K) := by
  rw [ByteArray.toList_eq, ByteArray.toList_eq, Bool.eq_iff_iff, beq_iff_eq, decide_eq_true_iff]
  exact ⟨fun h => strOf_inj hl hk (WideShapes.bytes_inj h), fun h => by rw [h]⟩

theorem put_wf (n : Int) : ∀ c ∈ M.put n, (Lit.int .u8 c).wf = true := fun _ h => put_byte h
end Go.Proofs.Ythedkcbkalifgaa
