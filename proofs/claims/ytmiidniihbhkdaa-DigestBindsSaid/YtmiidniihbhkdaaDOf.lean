/- The digest of some parts. -/
import Derived.Test.YtmiidniihbhkdaaDMath
import Derived.Test.YtmiidniihbhkdaaProg
import Derived.Outline
import Derived.WalkKit
import Derived.Laws.BitsLemmas
import Derived.RangeFuncWrites
import Derived.WalkLawsBesides
import Derived.WalkSpells
namespace Go.Proofs.Ytmiidniihbhkdaa
open Go.RowKit

theorem hide {p : Prop} (h : p) : Hid p := h

/-- the aggregate of eight bytes -/
abbrev agg8 (b0 b1 b2 b3 b4 b5 b6 b7 : Int) : Value := .agg #[.int .u8 b0, .int .u8 b1, .int .u8 b2, .int .u8 b3, .int .u8 b4, .int .u8 b5, .int .u8 b6, .int .u8 b7]
/-- byte j of a digest -/
def db (l : List UInt8) (j : Nat) : Nat := ((dig l).getD j 0).toNat
abbrev aggD (l : List UInt8) : Value := agg8 (db l 0) (db l 1) (db l 2) (db l 3) (db l 4) (db l 5) (db l 6) (db l 7)

set_option maxRecDepth 100000 in
set_option maxHeartbeats 1000000 in
theorem digestFrom_any (n : Nat) (hn : n < 18446744073709551616) (w : World) :
    Calls Try.prog 41 #[.int .u64 (n : Int)] w fun e w' => e = .returned (agg8 (n / 72057594037927936 : Int) (n / 281474976710656 % 256 : Int) (n / 1099511627776 % 256 : Int) (n / 4294967296 % 256 : Int) (n / 16777216 % 256 : Int) (n / 65536 % 256 : Int) (n / 256 % 256 : Int) (n % 256 : Int)) ∧
      (w.alloc (.cells #[.int .u8 (n / 72057594037927936 : Int), .int .u8 (n / 281474976710656 % 256 : Int), .int .u8 (n / 1099511627776 % 256 : Int), .int .u8 (n / 4294967296 % 256 : Int), .int .u8 (n / 16777216 % 256 : Int), .int .u8 (n / 65536 % 256 : Int), .int .u8 (n / 256 % 256 : Int), .int .u8 (n % 256 : Int)] 43)).alloc
        (.cells #[.int .u8 (n / 72057594037927936 : Int), .int .u8 (n / 281474976710656 % 256 : Int), .int .u8 (n / 1099511627776 % 256 : Int), .int .u8 (n / 4294967296 % 256 : Int), .int .u8 (n / 16777216 % 256 : Int), .int .u8 (n / 65536 % 256 : Int), .int .u8 (n / 256 % 256 : Int), .int .u8 (n % 256 : Int)] 43) = w' := by
  go_enter Try.func41, Try.ntmps41
  go_wp2
  refine wp_loop_rounds 9 ?_
  iterate 9
    rw [rounds_succ]
    go_wp2
  refine bodyPost_ret (v := agg8 (n / 72057594037927936 : Int) (n / 281474976710656 % 256 : Int) (n / 1099511627776 % 256 : Int) (n / 4294967296 % 256 : Int) (n / 16777216 % 256 : Int) (n / 65536 % 256 : Int) (n / 256 % 256 : Int) (n % 256 : Int)) (by simp [results, Try.results41, go_sem]) rfl ⟨rfl, rfl⟩

/-- a digest in memory -/
abbrev cellsD (l : List UInt8) : Obj := .cells #[.int .u8 (db l 0 : Int), .int .u8 (db l 1 : Int), .int .u8 (db l 2 : Int), .int .u8 (db l 3 : Int), .int .u8 (db l 4 : Int), .int .u8 (db l 5 : Int), .int .u8 (db l 6 : Int), .int .u8 (db l 7 : Int)] 43
theorem db_A (l : List UInt8) : db l 0 = remA l / 16777216 % 256 ∧ db l 1 = remA l / 65536 % 256 ∧ db l 2 = remA l / 256 % 256 ∧ db l 3 = remA l % 256 := by
  simp [db, dig, be4, UInt8.toNat_ofNat']
theorem db_B (l : List UInt8) : db l 4 = remB l / 16777216 % 256 ∧ db l 5 = remB l / 65536 % 256 ∧ db l 6 = remB l / 256 % 256 ∧ db l 7 = remB l % 256 := by
  simp [db, dig, be4, UInt8.toNat_ofNat']

theorem lt_of_cell {w : World} {a : Addr} {v : Value} (h : w.cell? a = some v) : a.block < w.heap.size := by
  obtain ⟨o, ho, _⟩ := cells_of_cell h
  exact (Array.getElem?_eq_some_iff.1 ho).1

theorem u64_or32 {x y : Int} (hx₀ : 0 ≤ x) (hx : x % 4294967296 = 0) (hx₁ : x < 18446744073709551616) (h₀ : 0 ≤ y) (h₁ : y < 4294967296) : bits BinOp.or .u64 x y = x + y :=
  bits_join .u64 64 (by decide) (fun n h0 h1 => IntWalk.u64_in n (by omega)) 32 x y hx₀ hx hx₁ h₀ h₁ (by omega)
theorem or_word (l : List UInt8) : bits BinOp.or .u64 ((remA l : Int) * 4294967296) (remB l : Int) = ((remA l * 4294967296 + remB l : Nat) : Int) := by
  have a := remA_lt l
  have b := remB_lt l
  have e := u64_or32 (x := (remA l : Int) * 4294967296) (y := (remB l : Int)) (by omega) (by omega) (by omega) (by omega) (by omega)
  rw [e]
  omega
theorem fromA (l : List UInt8) : (((remA l * 4294967296 + remB l : Nat) : Int) / 72057594037927936 = (db l 0 : Int)) ∧ (((remA l * 4294967296 + remB l : Nat) : Int) / 281474976710656 % 256 = (db l 1 : Int)) ∧
    (((remA l * 4294967296 + remB l : Nat) : Int) / 1099511627776 % 256 = (db l 2 : Int)) ∧ (((remA l * 4294967296 + remB l : Nat) : Int) / 4294967296 % 256 = (db l 3 : Int)) ∧
    (((remA l * 4294967296 + remB l : Nat) : Int) / 16777216 % 256 = (db l 4 : Int)) ∧ (((remA l * 4294967296 + remB l : Nat) : Int) / 65536 % 256 = (db l 5 : Int)) ∧
    (((remA l * 4294967296 + remB l : Nat) : Int) / 256 % 256 = (db l 6 : Int)) ∧ (((remA l * 4294967296 + remB l : Nat) : Int) % 256 = (db l 7 : Int)) := by
  obtain ⟨a0, a1, a2, a3⟩ := db_A l
  obtain ⟨b0, b1, b2, b3⟩ := db_B l
  have a := remA_lt l
  have b := remB_lt l
  refine ⟨?_, ?_, ?_, ?_, ?_, ?_, ?_, ?_⟩ <;> omega
theorem digestFrom_rem (l : List UInt8) (w : World) :
    Calls Try.prog 41 #[.int .u64 ((remA l : Int) * 4294967296 + (remB l : Int))] w fun e w' => e = .returned (aggD l) ∧ (w.alloc (cellsD l)).alloc (cellsD l) = w' := by
  have a := remA_lt l
  have b := remB_lt l
  have h := digestFrom_any (remA l * 4294967296 + remB l) (by omega) w
  obtain ⟨e0, e1, e2, e3, e4, e5, e6, e7⟩ := fromA l
  rw [e0, e1, e2, e3, e4, e5, e6, e7, Int.natCast_add, Int.natCast_mul] at h
  exact h

/-- the strings of a slice of length n lie in memory -/
def Strs (w : World) (a : Option Addr) (n : Nat) (S : Nat → ByteArray) : Prop := n = 0 ∨ ∃ b off, a = some ⟨b, off, none⟩ ∧ ∀ j, j < n → w.cell? ⟨b, off + j, none⟩ = some (.string (S j))
/-- the first n strings, one after the other -/
def cat (S : Nat → ByteArray) : Nat → List UInt8
  | 0 => []
  | n + 1 => cat S n ++ (S n).data.toList
theorem take_snoc (s : ByteArray) (k : Nat) (h : k < s.size) : s.data.toList.take (k + 1) = s.data.toList.take k ++ [s[k]] := by
  rw [List.take_succ_eq_append_getElem (by simpa using h)]; rfl

theorem stepA_int (l : List UInt8) (c : UInt8) : ((48271 * (remA l : Int) + ((c.toNat : Int) + 1)) % 2147483629) = (remA (l ++ [c]) : Int) := by
  rw [remA_snoc, stA]; omega
theorem stepB_int (l : List UInt8) (c : UInt8) : ((69621 * (remB l : Int) + ((c.toNat : Int) + 1)) % 2147483587) = (remB (l ++ [c]) : Int) := by
  rw [remB_snoc, stB]; omega

set_option maxRecDepth 100000 in
set_option maxHeartbeats 1000000 in
theorem digestOf_any (a : Option Addr) (n c : Nat) (hn : n ≤ 1099511627776) (S : Nat → ByteArray) (hs : ∀ j, j < n → (S j).size ≤ 9223372036854775807) (w : World) (hS : Strs w a n S) :
    Calls Try.prog 30 #[.slice a n c] w fun e w' => e = .returned (aggD (cat S n)) ∧ ((w.alloc (cellsD (cat S n))).alloc (cellsD (cat S n))).alloc (cellsD (cat S n)) = w' := by
  go_enter Try.func30, Try.ntmps30
  go_wp2
  go_loop [3, 4, 11] (fun x y i => ∃ k : Nat, k ≤ n ∧ i = .int .i64 (k : Int) ∧ x = .int .u64 (remA (cat S k) : Int) ∧ y = .int .u64 (remB (cat S k) : Int)) (fun _ _ i => n - (intOf i).toNat)
  case atStart => exact ⟨0, Nat.zero_le _, rfl, rfl, rfl⟩
  case round =>
    obtain ⟨k, hk, rfl, rfl, rfl⟩ := hrel
    by_cases hlt : k < n
    · obtain ⟨b, off, rfl, hc⟩ : ∃ b off, a = some ⟨b, off, none⟩ ∧ ∀ j, j < n → w.cell? ⟨b, off + j, none⟩ = some (.string (S j)) := by
        rcases hS with h | h
        · omega
        · exact h
      have hck := hc k hlt
      have hsk := hs k hlt
      have hA := remA_lt (cat S k)
      have hB := remB_lt (cat S k)
      have hb : b < w.heap.size := lt_of_cell hck
      clear hS hc hs
      go_wp2
      go_loop [3, 4, 17] (fun x y i => ∃ j : Nat, j ≤ (S k).size ∧ i = .int .i64 (j : Int) ∧ x = .int .u64 (remA (cat S k ++ (S k).data.toList.take j) : Int) ∧ y = .int .u64 (remB (cat S k ++ (S k).data.toList.take j) : Int)) (fun _ _ i => (S k).size - (intOf i).toNat)
      case atStart => exact ⟨0, Nat.zero_le _, rfl, by simp, by simp⟩
      case round =>
        obtain ⟨j, hj, rfl, rfl, rfl⟩ := hrel
        by_cases hjl : j < (S k).size
        · have hA := remA_lt (cat S k ++ (S k).data.toList.take j)
          have hB := remB_lt (cat S k ++ (S k).data.toList.take j)
          have hc8 : ((S k)[j]).toNat < 256 := (S k)[j].toNat_lt
          go_wp2
          go_round
          case rel =>
            refine ⟨j + 1, by omega, by go_num, ?_, ?_⟩
            · rw [take_snoc _ _ hjl, ← List.append_assoc, stepA_int]
            · rw [take_snoc _ _ hjl, ← List.append_assoc, stepB_int]
          case measure => simp [intOf]; omega
        · have hje : (S k).data.toList.take j = (S k).data.toList := List.take_of_length_le (by simp; have : (S k).data.size = (S k).size := rfl; omega)
          rw [hje]
          clear hje
          go_wp2
          go_round
          case rel => exact ⟨k + 1, by omega, by go_num, rfl, rfl⟩
          case measure => simp [intOf]; omega
    · obtain rfl : k = n := by omega
      have hA := remA_lt (cat S k)
      have hB := remB_lt (cat S k)
      have hor := or_word (cat S k)
      go_wp2_with fail
      refine (digestFrom_rem (cat S k) _).mono ?_
      rintro e w' ⟨rfl, rfl⟩
      go_wp2
      exact bodyPost_ret (v := aggD (cat S k)) (by simp [results, Try.results30, go_sem]) rfl ⟨rfl, rfl⟩
end Go.Proofs.Ytmiidniihbhkdaa
