/- The reference's functions, but those of trees. -/
import Derived.Test.YtmiidniihbhkdaaDCheck
import Derived.Outline
namespace Go.Proofs.Ytmiidniihbhkdaa
open Go.RowKit

theorem bs_append (a b : ByteArray) : bs (a ++ b) = bs a ++ bs b := by simp [bs]
theorem mk_append (a b : List UInt8) : ((⟨a.toArray⟩ : ByteArray) ++ ⟨b.toArray⟩) = ⟨(a ++ b).toArray⟩ := by
  apply ByteArray.ext
  simp
theorem size_mk (l : List UInt8) : (⟨l.toArray⟩ : ByteArray).size = l.length := by simp [ByteArray.size]

theorem conv_most (n : Nat) (t : TypeId) (w : World) :
    (convert 40 9 (.slice (some ⟨w.heap.size, 0, none⟩) 4 4)).run Try.prog (w.alloc (.cells #[.int .u8 ((n : Int) / 16777216 % 256), .int .u8 ((n : Int) / 65536 % 256), .int .u8 ((n : Int) / 256 % 256), .int .u8 ((n : Int) % 256)] t)) =
      .ok (str (be4 n)) (w.alloc (.cells #[.int .u8 ((n : Int) / 16777216 % 256), .int .u8 ((n : Int) / 65536 % 256), .int .u8 ((n : Int) / 256 % 256), .int .u8 ((n : Int) % 256)] t)) := by
  obtain ⟨e0, e1, e2, e3⟩ := cast4 n
  rw [e0, e1, e2, e3]
  exact conv_four _ _ _ _ (Nat.mod_lt _ (by decide)) (Nat.mod_lt _ (by decide)) (Nat.mod_lt _ (by decide)) (Nat.mod_lt _ (by decide)) t w

set_option maxRecDepth 100000 in
set_option maxHeartbeats 1000000 in
theorem most4_any (n : Nat) (hn : n < 4294967296) (w : World) :
    Calls Try.prog 32 #[.int .i64 (n : Int)] w fun e w' => e = .returned (str (be4 n)) ∧ Below w.heap.size w w' := by
  have hc := conv_most n 5 w
  rw [show (n : Int) / 16777216 % 256 = (n : Int) / 16777216 from by omega] at hc
  go_enter Try.func32, Try.ntmps32
  go_wp2
  go_ret
  exact ⟨rfl, (Below.refl _ w).alloc (Nat.le_refl _) _⟩

set_option maxRecDepth 100000 in
set_option maxHeartbeats 1000000 in
theorem least4_any (n : Nat) (hn : n ≤ 9223372036854775807) (w : World) :
    Calls Try.prog 29 #[.int .i64 (n : Int)] w fun e w' => e = .returned (str (le4 n)) ∧ Below w.heap.size w w' := by
  have hc := conv_least n 5 w
  go_enter Try.func29, Try.ntmps29
  go_wp2
  go_ret
  exact ⟨rfl, (Below.refl _ w).alloc (Nat.le_refl _) _⟩

set_option maxRecDepth 100000 in
set_option maxHeartbeats 1000000 in
theorem refOf_any (s : ByteArray) (hs : s.size ≤ 1099511627776) (w : World) :
    Calls Try.prog 14 #[.string s] w fun e w' => e = .returned (str (dig (bs s))) ∧ Below w.heap.size w w' := by
  go_enter Try.func14, Try.ntmps14
  go_wp2
  go_loop [3, 4, 5] (fun x y i => ∃ j : Nat, j ≤ s.size ∧ i = .int .i64 (j : Int) ∧ x = .int .i64 (remA (s.data.toList.take j) : Int) ∧ y = .int .i64 (remB (s.data.toList.take j) : Int)) (fun _ _ i => s.size - (intOf i).toNat)
  case atStart => exact ⟨0, Nat.zero_le _, rfl, rfl, rfl⟩
  case round =>
    obtain ⟨j, hj, rfl, rfl, rfl⟩ := hrel
    by_cases hjl : j < s.size
    · have hA := remA_lt (s.data.toList.take j)
      have hB := remB_lt (s.data.toList.take j)
      have hc8 : (s[j]).toNat < 256 := s[j].toNat_lt
      go_wp2
      go_round
      case rel =>
        refine ⟨j + 1, by omega, by go_num, ?_, ?_⟩
        · rw [take_snoc _ _ hjl, Int.add_assoc, stepA_int]
        · rw [take_snoc _ _ hjl, Int.add_assoc, stepB_int]
      case measure => simp [intOf]; omega
    · have hje : s.data.toList.take j = s.data.toList := List.take_of_length_le (by simp; have : s.data.size = s.size := rfl; omega)
      rw [hje]
      clear hje
      have hA := remA_lt s.data.toList
      have hB := remB_lt s.data.toList
      go_wp2_with fail
      refine (most4_any _ (by omega) _).mono ?_
      rintro e w1 ⟨rfl, hb1⟩
      go_wp2_with fail
      refine (most4_any _ (by omega) _).mono ?_
      rintro e w2 ⟨rfl, hb2⟩
      go_wp2_with fail
      go_ret
      exact ⟨by rw [mk_append]; rfl, hb1.trans (hb2.mono hb1.size)⟩

theorem bs_lit (a : Array UInt8) : bs ⟨a⟩ = a.toList := rfl
theorem size_lit (a : Array UInt8) : (⟨a⟩ : ByteArray).size = a.size := rfl

set_option maxRecDepth 100000 in
set_option maxHeartbeats 1000000 in
theorem refChain_any (b : ByteArray) (hb : b.size ≤ 274877906944) (s : ByteArray) (hs : s.size ≤ 274877906944) (w : World) :
    Calls Try.prog 16 #[.string b, .string s] w fun e w' => e = .returned (str (dChain (bs b) (bs s))) ∧ Below w.heap.size w w' := by
  have h40 := size_mk (le4 b.size)
  have e40 := le4_len b.size
  have hbs : dig (bs ((⟨#[4]⟩ : ByteArray) ++ ⟨(le4 b.size).toArray⟩ ++ b ++ s)) = dChain (bs b) (bs s) := by simp [bs_append, bs_lit, bs_len, dChain, dMark, dLeaf, dInner, dMissing]
  have hsz : ((⟨#[4]⟩ : ByteArray) ++ ⟨(le4 b.size).toArray⟩ ++ b ++ s).size ≤ 1099511627776 := by simp only [ByteArray.size_append, size_lit, List.size_toArray, le4_len, List.size_toArray, List.length_cons, List.length_nil]; omega
  have HB := hide hbs
  have HZ := hide hsz
  clear hbs hsz
  go_enter Try.func16, Try.ntmps16
  go_wp2_with fail
  refine (least4_any _ (by omega) _).mono ?_
  rintro e w1 ⟨rfl, hb1⟩
  have B1 := hb1
  go_wp2_with fail
  refine (refOf_any _ HZ.out _).mono ?_
  rintro e w9 ⟨rfl, hb9⟩
  rw [HB.out]
  go_wp2_with fail
  go_ret
  exact ⟨rfl, (B1).trans (hb9.mono (B1).size)⟩

set_option maxRecDepth 100000 in
set_option maxHeartbeats 1000000 in
theorem refMark_any (k : ByteArray) (hk : k.size ≤ 274877906944) (m : ByteArray) (hm : m.size ≤ 274877906944) (w : World) :
    Calls Try.prog 12 #[.string k, .string m] w fun e w' => e = .returned (str (dMark (bs k) (bs m))) ∧ Below w.heap.size w w' := by
  have h40 := size_mk (le4 k.size)
  have e40 := le4_len k.size
  have h41 := size_mk (le4 m.size)
  have e41 := le4_len m.size
  have hbs : dig (bs ((⟨#[5]⟩ : ByteArray) ++ ⟨(le4 k.size).toArray⟩ ++ k ++ ⟨(le4 m.size).toArray⟩ ++ m ++ k)) = dMark (bs k) (bs m) := by simp [bs_append, bs_lit, bs_len, dChain, dMark, dLeaf, dInner, dMissing]
  have hsz : ((⟨#[5]⟩ : ByteArray) ++ ⟨(le4 k.size).toArray⟩ ++ k ++ ⟨(le4 m.size).toArray⟩ ++ m ++ k).size ≤ 1099511627776 := by simp only [ByteArray.size_append, size_lit, List.size_toArray, le4_len, List.size_toArray, List.length_cons, List.length_nil]; omega
  have HB := hide hbs
  have HZ := hide hsz
  clear hbs hsz
  go_enter Try.func12, Try.ntmps12
  go_wp2_with fail
  refine (least4_any _ (by omega) _).mono ?_
  rintro e w1 ⟨rfl, hb1⟩
  have B1 := hb1
  go_wp2_with fail
  refine (least4_any _ (by omega) _).mono ?_
  rintro e w2 ⟨rfl, hb2⟩
  have B2 := B1.trans (hb2.mono B1.size)
  go_wp2_with fail
  refine (refOf_any _ HZ.out _).mono ?_
  rintro e w9 ⟨rfl, hb9⟩
  rw [HB.out]
  go_wp2_with fail
  go_ret
  exact ⟨rfl, (B2).trans (hb9.mono (B2).size)⟩

set_option maxRecDepth 100000 in
set_option maxHeartbeats 1000000 in
theorem refLeaf_any (s : ByteArray) (hs : s.size ≤ 274877906944) (w : World) :
    Calls Try.prog 24 #[.string s] w fun e w' => e = .returned (str (dLeaf (bs s))) ∧ Below w.heap.size w w' := by
  have hbs : dig (bs ((⟨#[1]⟩ : ByteArray) ++ s)) = dLeaf (bs s) := by simp [bs_append, bs_lit, bs_len, dChain, dMark, dLeaf, dInner, dMissing]
  have hsz : ((⟨#[1]⟩ : ByteArray) ++ s).size ≤ 1099511627776 := by simp only [ByteArray.size_append, size_lit, List.size_toArray, le4_len, List.size_toArray, List.length_cons, List.length_nil]; omega
  have HB := hide hbs
  have HZ := hide hsz
  clear hbs hsz
  go_enter Try.func24, Try.ntmps24
  go_wp2_with fail
  refine (refOf_any _ HZ.out _).mono ?_
  rintro e w9 ⟨rfl, hb9⟩
  rw [HB.out]
  go_wp2_with fail
  go_ret
  exact ⟨rfl, hb9⟩

set_option maxRecDepth 100000 in
set_option maxHeartbeats 1000000 in
theorem refInner_any (a : ByteArray) (ha : a.size ≤ 274877906944) (b : ByteArray) (hb : b.size ≤ 274877906944) (w : World) :
    Calls Try.prog 26 #[.string a, .string b] w fun e w' => e = .returned (str (dInner (bs a) (bs b))) ∧ Below w.heap.size w w' := by
  have hbs : dig (bs ((⟨#[2]⟩ : ByteArray) ++ a ++ b)) = dInner (bs a) (bs b) := by simp [bs_append, bs_lit, bs_len, dChain, dMark, dLeaf, dInner, dMissing]
  have hsz : ((⟨#[2]⟩ : ByteArray) ++ a ++ b).size ≤ 1099511627776 := by simp only [ByteArray.size_append, size_lit, List.size_toArray, le4_len, List.size_toArray, List.length_cons, List.length_nil]; omega
  have HB := hide hbs
  have HZ := hide hsz
  clear hbs hsz
  go_enter Try.func26, Try.ntmps26
  go_wp2_with fail
  refine (refOf_any _ HZ.out _).mono ?_
  rintro e w9 ⟨rfl, hb9⟩
  rw [HB.out]
  go_wp2_with fail
  go_ret
  exact ⟨rfl, hb9⟩

set_option maxRecDepth 100000 in
set_option maxHeartbeats 1000000 in
theorem refMissing_any (w : World) :
    Calls Try.prog 28 #[] w fun e w' => e = .returned (str (dMissing)) ∧ Below w.heap.size w w' := by
  have hbs : dig (bs ((⟨#[3]⟩ : ByteArray))) = dMissing := by simp [bs_append, bs_lit, bs_len, dChain, dMark, dLeaf, dInner, dMissing]
  have hsz : ((⟨#[3]⟩ : ByteArray)).size ≤ 1099511627776 := by simp only [ByteArray.size_append, size_lit, List.size_toArray, le4_len, List.size_toArray, List.length_cons, List.length_nil]; omega
  have HB := hide hbs
  have HZ := hide hsz
  clear hbs hsz
  go_enter Try.func28, Try.ntmps28
  go_wp2_with fail
  refine (refOf_any _ HZ.out _).mono ?_
  rintro e w9 ⟨rfl, hb9⟩
  rw [HB.out]
  go_wp2_with fail
  go_ret
  exact ⟨rfl, hb9⟩

theorem toList_bs (s : ByteArray) : s.toList = bs s := ByteArray.toList_eq s
theorem chk_ne {k m x : List UInt8} (h : k.isEmpty = false) : chk k m x = (x == dMark k m) := by simp [chk, h]
theorem chk_nil {k m x : List UInt8} (h : k.isEmpty = true) : chk k m x = false := by simp [chk, h]

set_option maxRecDepth 100000 in
set_option maxHeartbeats 1000000 in
theorem refCheck_any (k m x : ByteArray) (hk : k.size ≤ 274877906944) (hm : m.size ≤ 274877906944) (w : World) :
    Calls Try.prog 19 #[.string k, .string m, .string x] w fun e w' => e = .returned (.bool (chk (bs k) (bs m) (bs x))) ∧ Below w.heap.size w w' := by
  cases he : k.toList.isEmpty with
  | true =>
    rw [chk_nil (by rw [← toList_bs, he])]
    go_enter Try.func19, Try.ntmps19
    go_wp2
    go_ret
    exact ⟨rfl, Below.refl _ _⟩
  | false =>
    rw [chk_ne (by rw [← toList_bs, he])]
    go_enter Try.func19, Try.ntmps19
    go_wp2_with fail
    refine (refMark_any k hk m hm _).mono ?_
    rintro e w1 ⟨rfl, hb1⟩
    go_wp2
    go_ret
    exact ⟨by simp only [toList_bs, bs_mk]; rfl, hb1⟩
end Go.Proofs.Ytmiidniihbhkdaa
