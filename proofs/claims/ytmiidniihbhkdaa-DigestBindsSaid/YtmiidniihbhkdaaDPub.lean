/- The exported functions of digest, but Root. -/
import Derived.Test.YtmiidniihbhkdaaDText
import Derived.Outline
namespace Go.Proofs.Ytmiidniihbhkdaa
open Go.RowKit

/-- the bytes of a string -/
def bs (s : ByteArray) : List UInt8 := s.data.toList
theorem bs_mk (l : List UInt8) : bs ⟨l.toArray⟩ = l := rfl
theorem bs_len (s : ByteArray) : (bs s).length = s.size := by simp [bs]
theorem mk_bs (s : ByteArray) : (⟨(bs s).toArray⟩ : ByteArray) = s := by simp [bs]

def dChain (b s : List UInt8) : List UInt8 := dig (4 :: (le4 b.length ++ (b ++ s)))
def dMark (k m : List UInt8) : List UInt8 := dig (5 :: (le4 k.length ++ (k ++ (le4 m.length ++ (m ++ k)))))
def dLeaf (s : List UInt8) : List UInt8 := dig (1 :: s)
def dInner (a b : List UInt8) : List UInt8 := dig (2 :: (a ++ b))
def dMissing : List UInt8 := dig [3]

/-- the strings, one after the other -/
def join (L : List ByteArray) : List UInt8 := L.flatMap bs
theorem cat_list (L : List ByteArray) : ∀ n, n ≤ L.length → cat (fun j => L.getD j ByteArray.empty) n = join (L.take n) := by
  intro n
  induction n with
  | zero => intro _; rfl
  | succ n ih =>
    intro hn
    rw [cat, ih (by omega), List.take_succ_eq_append_getElem (i := n) (by omega), join, join, List.flatMap_append]
    simp [bs, List.getD_eq_getElem?_getD, List.getElem?_eq_getElem (show n < L.length by omega)]

theorem strs_new (L : List ByteArray) (t : TypeId) (w : World) : Strs (w.alloc (.cells (L.map Value.string).toArray t)) (some ⟨w.heap.size, 0, none⟩) L.length (fun j => L.getD j ByteArray.empty) := by
  refine .inr ⟨_, _, rfl, fun j hj => ?_⟩
  simp [go_sem, List.getElem?_eq_getElem hj, List.getD_eq_getElem?_getD]

theorem digestOf_new (L : List ByteArray) (hl : L.length ≤ 1099511627776) (hs : ∀ s ∈ L, s.size ≤ 9223372036854775807) (t : TypeId) (w : World) (b : Nat) (hb : w.heap.size = b) :
    Calls Try.prog 30 #[.slice (some ⟨b, 0, none⟩) L.length L.length] (w.alloc (.cells (L.map Value.string).toArray t)) fun e w' => e = .returned (aggD (join L)) ∧
      (((w.alloc (.cells (L.map Value.string).toArray t)).alloc (cellsD (join L))).alloc (cellsD (join L))).alloc (cellsD (join L)) = w' := by
  subst hb
  have h := digestOf_any (some ⟨w.heap.size, 0, none⟩) L.length L.length hl (fun j => L.getD j ByteArray.empty) (fun j hj => hs _ (by simp [List.getD_eq_getElem?_getD, List.getElem?_eq_getElem hj])) _ (strs_new L t w)
  rw [cat_list L _ (Nat.le_refl _), List.take_length] at h
  exact h

theorem small4 (n : Nat) : (⟨(le4 n).toArray⟩ : ByteArray).size ≤ 9223372036854775807 := (by decide : 4 ≤ 9223372036854775807)

set_option maxRecDepth 100000 in
set_option maxHeartbeats 1000000 in
theorem of_any (s : ByteArray) (hs : s.size ≤ 9223372036854775807) (w : World) :
    Calls Try.prog 13 #[.string s] w fun e w' => e = .returned (str (dig (bs s))) ∧ Below w.heap.size w w' := by
  have hj : join [s] = bs s := by simp [join, bs]
  have h := fun (W : World) (c : Nat) => digestOf_new [s] (by simp) (fun x hx => by
    simp only [List.mem_cons, List.not_mem_nil, or_false] at hx
    subst hx; exact hs) 9 W c
  rw [hj] at h
  have H := hide h
  clear hj h
  go_enter Try.func13, Try.ntmps13
  go_wp2_with fail
  refine (H.out _ _ (by simp)).mono ?_
  rintro e w' ⟨rfl, rfl⟩
  go_wp2_with fail
  refine (text_any _ _).mono ?_
  rintro e w' ⟨rfl, rfl⟩
  go_wp2_with fail
  go_ret
  exact ⟨rfl, by repeat (first | exact Below.refl _ _ | refine Below.alloc ?_ (by simp; try omega) _)⟩

set_option maxRecDepth 100000 in
set_option maxHeartbeats 1000000 in
theorem leafOf_any (s : ByteArray) (hs : s.size ≤ 9223372036854775807) (w : World) :
    Calls Try.prog 38 #[.string s] w fun e w' => e = .returned (aggD (1 :: bs s)) ∧ Below w.heap.size w w' := by
  have hj : join [⟨#[1]⟩, s] = 1 :: bs s := by simp [join, bs]
  have h := fun (W : World) (c : Nat) => digestOf_new [⟨#[1]⟩, s] (by simp) (fun x hx => by
    simp only [List.mem_cons, List.not_mem_nil, or_false] at hx
    rcases hx with rfl | rfl <;> first | exact hs | (show _ ≤ 9223372036854775807; exact (by decide : 4 ≤ 9223372036854775807)) | decide) 9 W c
  rw [hj] at h
  have H := hide h
  clear hj h
  go_enter Try.func38, Try.ntmps38
  go_wp2_with fail
  refine (H.out _ _ (by simp)).mono ?_
  rintro e w' ⟨rfl, rfl⟩
  go_wp2
  exact bodyPost_ret (v := aggD (1 :: bs s)) (by simp [results, Try.results38, go_sem]) rfl ⟨rfl, by repeat (first | exact Below.refl _ _ | refine Below.alloc ?_ (by simp; try omega) _)⟩

set_option maxRecDepth 100000 in
set_option maxHeartbeats 1000000 in
theorem innerOf_any (a : ByteArray) (ha : a.size ≤ 9223372036854775807) (b : ByteArray) (hb : b.size ≤ 9223372036854775807) (w : World) :
    Calls Try.prog 39 #[.string a, .string b] w fun e w' => e = .returned (aggD (2 :: (bs a ++ bs b))) ∧ Below w.heap.size w w' := by
  have hj : join [⟨#[2]⟩, a, b] = 2 :: (bs a ++ bs b) := by simp [join, bs]
  have h := fun (W : World) (c : Nat) => digestOf_new [⟨#[2]⟩, a, b] (by simp) (fun x hx => by
    simp only [List.mem_cons, List.not_mem_nil, or_false] at hx
    rcases hx with rfl | rfl | rfl <;> first | exact ha | exact hb | (show _ ≤ 9223372036854775807; exact (by decide : 4 ≤ 9223372036854775807)) | decide) 9 W c
  rw [hj] at h
  have H := hide h
  clear hj h
  go_enter Try.func39, Try.ntmps39
  go_wp2_with fail
  refine (H.out _ _ (by simp)).mono ?_
  rintro e w' ⟨rfl, rfl⟩
  go_wp2
  exact bodyPost_ret (v := aggD (2 :: (bs a ++ bs b))) (by simp [results, Try.results39, go_sem]) rfl ⟨rfl, by repeat (first | exact Below.refl _ _ | refine Below.alloc ?_ (by simp; try omega) _)⟩

set_option maxRecDepth 100000 in
set_option maxHeartbeats 1000000 in
theorem missing_any (w : World) :
    Calls Try.prog 40 #[] w fun e w' => e = .returned (aggD ([3])) ∧ Below w.heap.size w w' := by
  have hj : join [⟨#[3]⟩] = [3] := by simp [join, bs]
  have h := fun (W : World) (c : Nat) => digestOf_new [⟨#[3]⟩] (by simp) (fun x hx => by
    simp only [List.mem_cons, List.not_mem_nil, or_false] at hx
    subst hx; decide) 9 W c
  rw [hj] at h
  have H := hide h
  clear hj h
  go_enter Try.func40, Try.ntmps40
  go_wp2_with fail
  refine (H.out _ _ (by simp)).mono ?_
  rintro e w' ⟨rfl, rfl⟩
  go_wp2
  exact bodyPost_ret (v := aggD ([3])) (by simp [results, Try.results40, go_sem]) rfl ⟨rfl, by repeat (first | exact Below.refl _ _ | refine Below.alloc ?_ (by simp; try omega) _)⟩

set_option maxRecDepth 100000 in
set_option maxHeartbeats 1000000 in
theorem chain_any (b s : ByteArray) (hb : b.size ≤ 9223372036854775807) (hs : s.size ≤ 9223372036854775807) (w : World) :
    Calls Try.prog 15 #[.string b, .string s] w fun e w' => e = .returned (str (dChain (bs b) (bs s))) ∧ Below w.heap.size w w' := by
  have hj : join [⟨#[4]⟩, ⟨(le4 b.size).toArray⟩, b, s] = 4 :: (le4 (bs b).length ++ (bs b ++ bs s)) := by simp [join, bs]
  have h := fun (W : World) (c : Nat) => digestOf_new [⟨#[4]⟩, ⟨(le4 b.size).toArray⟩, b, s] (by simp) (fun x hx => by
    simp only [List.mem_cons, List.not_mem_nil, or_false] at hx
    rcases hx with rfl | rfl | rfl | rfl <;> first | exact small4 _ | exact hb | exact hs | (show _ ≤ 9223372036854775807; exact (by decide : 4 ≤ 9223372036854775807)) | decide) 9 W c
  rw [hj] at h
  have H := hide h
  clear hj h
  go_enter Try.func15, Try.ntmps15
  go_wp2_with fail
  refine (length_any b hb _).mono ?_
  rintro e w1 ⟨rfl, hb1⟩
  go_wp2_with fail
  refine (H.out _ _ (by simp)).mono ?_
  rintro e w' ⟨rfl, rfl⟩
  go_wp2_with fail
  refine (text_any _ _).mono ?_
  rintro e w' ⟨rfl, rfl⟩
  go_wp2_with fail
  go_ret
  exact ⟨rfl, by repeat (first | exact hb1 | refine Below.alloc ?_ (by have hz := hb1.size; simp; try omega) _)⟩

set_option maxRecDepth 100000 in
set_option maxHeartbeats 1000000 in
theorem leaf_any (s : ByteArray) (hs : s.size ≤ 9223372036854775807) (w : World) :
    Calls Try.prog 23 #[.string s] w fun e w' => e = .returned (str (dLeaf (bs s))) ∧ Below w.heap.size w w' := by
  go_enter Try.func23, Try.ntmps23
  go_wp2_with fail
  refine (leafOf_any s hs _).mono ?_
  rintro e w1 ⟨rfl, hb1⟩
  go_wp2_with fail
  refine (text_any _ _).mono ?_
  rintro e w' ⟨rfl, rfl⟩
  go_wp2_with fail
  go_ret
  exact ⟨rfl, by repeat (first | exact hb1 | refine Below.alloc ?_ (by have hz := hb1.size; simp; try omega) _)⟩

set_option maxRecDepth 100000 in
set_option maxHeartbeats 1000000 in
theorem inner_any (a : ByteArray) (ha : a.size ≤ 9223372036854775807) (b : ByteArray) (hb : b.size ≤ 9223372036854775807) (w : World) :
    Calls Try.prog 25 #[.string a, .string b] w fun e w' => e = .returned (str (dInner (bs a) (bs b))) ∧ Below w.heap.size w w' := by
  go_enter Try.func25, Try.ntmps25
  go_wp2_with fail
  refine (innerOf_any a ha b hb _).mono ?_
  rintro e w1 ⟨rfl, hb1⟩
  go_wp2_with fail
  refine (text_any _ _).mono ?_
  rintro e w' ⟨rfl, rfl⟩
  go_wp2_with fail
  go_ret
  exact ⟨rfl, by repeat (first | exact hb1 | refine Below.alloc ?_ (by have hz := hb1.size; simp; try omega) _)⟩

set_option maxRecDepth 100000 in
set_option maxHeartbeats 1000000 in
theorem missingP_any (w : World) :
    Calls Try.prog 27 #[] w fun e w' => e = .returned (str (dMissing)) ∧ Below w.heap.size w w' := by
  go_enter Try.func27, Try.ntmps27
  go_wp2_with fail
  refine (missing_any _).mono ?_
  rintro e w1 ⟨rfl, hb1⟩
  go_wp2_with fail
  refine (text_any _ _).mono ?_
  rintro e w' ⟨rfl, rfl⟩
  go_wp2_with fail
  go_ret
  exact ⟨rfl, by repeat (first | exact hb1 | refine Below.alloc ?_ (by have hz := hb1.size; simp; try omega) _)⟩

end Go.Proofs.Ytmiidniihbhkdaa
