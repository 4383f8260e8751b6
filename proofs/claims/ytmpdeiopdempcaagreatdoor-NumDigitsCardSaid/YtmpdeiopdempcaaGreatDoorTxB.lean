/- num's parseDecimals of decimal digits. -/
import Derived.Test.YtmpdeiopdempcaaGreatDoorTxA
import Derived.Test.YtmpdeiopdempcaaGreatDoorParse
namespace Go.Proofs.YtmpdeiopdempcaaGreatDoor
open Go.RowKit Go.Shelf

theorem pow_bp (k : Nat) : 10 ^ k ≤ bp k := by unfold bp; exact Nat.pow_le_pow_left (by decide) k
theorem dlen_dv {l : List UInt8} {k : Nat} (h : ∀ c ∈ l, isD c) (hk : l.length ≤ k) : dlen (dv l) ≤ k :=
  dlen_le_iff.2 (Nat.lt_of_lt_of_le (dv_lt l h) (Nat.le_trans (pow_bp _) (bp_le hk)))
theorem dlen_nine {x k : Nat} (h : dlen x ≤ k) : dlen (x * 1000000000) ≤ k + 1 := by
  rw [dlen_le_iff] at *
  rw [bp_succ]; omega
theorem lt_nine {x m : Nat} (h : x < 10 ^ m) (hm : m ≤ 9) : x < 1000000000 := Nat.lt_of_lt_of_le h (Nat.le_trans (Nat.pow_le_pow_right (by decide) hm) (by decide))
theorem bytes_size (l : List UInt8) : (⟨l.toArray⟩ : ByteArray).size = l.length := by simp [ByteArray.size]
theorem bytes_extract (l : List UInt8) (i j : Nat) : (⟨l.toArray⟩ : ByteArray).extract i j = ⟨((l.drop i).take (j - i)).toArray⟩ := by
  apply ByteArray.ext
  rw [ByteArray.data_extract]
  apply Array.toList_inj.1
  simp [List.extract_eq_take_drop]

set_option maxRecDepth 100000 in
set_option maxHeartbeats 4000000 in
theorem pdec_ok (l : List UInt8) (h640 : l.length ≤ 640) (hd : ∀ c ∈ l, isD c) (w : World) :
    Calls Tryz.prog 56 #[.string ⟨l.toArray⟩] w fun e w' => ∃ (a : Option Addr) (n c : Nat), e = .returned (.tuple #[.slice a n c, .bool true]) ∧ IsD w' a n (dv l) ∧ n ≤ c ∧ (n = 0 ∨ Fresh w a) ∧ Below w.heap.size w w' := by
  have HD := hide hd
  clear hd
  go_enter Tryz.func56, Tryz.ntmps56
  go_wp2_with fail
  go_loopw [0, 4] (fun p gv wr => ∃ (pre rest : List UInt8) (a : Option Addr) (n c : Nat), l = pre ++ rest ∧ p = .string ⟨rest.toArray⟩ ∧ gv = .slice a n c ∧ IsD wr a n (dv pre) ∧ n ≤ c ∧ (n = 0 ∨ Fresh w a) ∧ (pre = [] ∨ rest.length % 9 = 0) ∧ Below w.heap.size w wr)
    (fun p _ _ => strLen p)
  case atStart => exact ⟨[], l, none, 0, 0, rfl, rfl, rfl, ⟨by unfold dv; rw [dvA_nil, dlen_zero], .inl rfl⟩, Nat.le_refl _, .inl rfl, .inl rfl, Below.refl _ _⟩
  case round =>
    obtain ⟨pre, rest, a, n, c, hl, rfl, rfl, hI, hnc, hf, h9, hB⟩ := hrel
    have hs : (⟨rest.toArray⟩ : ByteArray).size = rest.length := bytes_size rest
    by_cases hr : rest = []
    · subst hr
      have hl' : pre = l := by rw [hl, List.append_nil]
      rw [hl'] at hI
      clear hs hl h9
      go_wp2_with fail
      go_ret2
      exact ⟨a, n, c, rfl, hI, hnc, hf, hB⟩
    · have hpos : 0 < rest.length := List.length_pos_iff.2 hr
      have hlen : rest.length ≤ 640 := by have := congrArg List.length hl; rw [List.length_append] at this; omega
      have hpos' : (0 : Int) < rest.length := by omega
      go_wp2_with fail
      obtain ⟨m, hm⟩ : ∃ m, (rest.length - 1) % 9 + 1 = m := ⟨_, rfl⟩
      have hmi : ((rest.length : Int) - 1) % 9 + 1 = (m : Int) := by omega
      have hm1 : 1 ≤ m ∧ m ≤ 9 ∧ m ≤ rest.length := by omega
      obtain ⟨q, hq⟩ : ∃ q, rest.take m = q := ⟨_, rfl⟩
      obtain ⟨r', hr'⟩ : ∃ r', rest.drop m = r' := ⟨_, rfl⟩
      have hqr : rest = q ++ r' := by rw [← hq, ← hr', List.take_append_drop]
      have hql : q.length = m := by rw [← hq, List.length_take]; omega
      have hrl : r'.length = rest.length - m := by rw [← hr', List.length_drop]
      have hqd : ∀ c ∈ q, isD c := fun c hc => HD.out c (by rw [hl, hqr]; simp [hc])
      have hq0 : q ≠ [] := fun e => by rw [e] at hql; simp at hql; omega
      have hpart := parse_nine hq0 (by omega) hqd
      have hqv := dv_lt q hqd
      have hx1 : (⟨rest.toArray⟩ : ByteArray).extract 0 m = ⟨q.toArray⟩ := by rw [bytes_extract]; simp [← hq]
      have hx2 : (⟨rest.toArray⟩ : ByteArray).extract m rest.length = ⟨r'.toArray⟩ := by rw [bytes_extract, ← hr', List.take_of_length_le (by simp)]
      have hq10 : dv q < 1000000000 := lt_nine (by rw [← hql]; exact hqv) hm1.2.1
      have hval : dv pre * 1000000000 + dv q = dv (pre ++ q) := by
        rw [dv_append]
        rcases h9 with h | h
        · have h0 : dv pre = 0 := by rw [h]; exact dvA_nil 0
          rw [h0, Nat.zero_mul, Nat.zero_mul]
        · rw [hql, show m = 9 by omega]
      have hrm : r'.length % 9 = 0 := by omega
      have hl2 : l = (pre ++ q) ++ r' := by rw [hl, hqr, List.append_assoc]
      have hmr : (m : Int) ≤ rest.length := by omega
      rw [hm, hx1, hmi]
      refine (Tryz.strconv_ParseUint_10_at32_ok ⟨q.toArray⟩ (by rw [bytes_size]; omega) (dv q) hpart wr).mono ?_
      rintro e w1 ⟨rfl, hw1⟩
      have hB1' : Below wr.heap.size wr w1 := by
        rcases hw1 with rfl | rfl
        · exact Below.refl _ _
        · exact below_bytes _ _ _
      have hB1 := hB.trans (hB1'.mono hB.size)
      have hI1 := hI.below hB1'
      have hn640 : n ≤ 640 := by
        rw [hI.len]
        exact dlen_dv (fun c hc => HD.out c (by rw [hl]; simp [hc])) (by have := congrArg List.length hl; rw [List.length_append] at this; omega)
      have HV := hide (And.intro hval (And.intro hrm hl2))
      have HX := hide hx2
      have HM := hide hmi
      have HR := hide (And.intro hrl hm1)
      clear hw1 hval hrm hl2 hqr hpart hqv hx1 hq hr' h9 hl hqd hx2 hI hB1' hmi hrl
      go_wp2_with fail
      have hBa : Below w1.heap.size w1 (w1.alloc (Obj.cells #[Value.int .u32 1000000000] 52)) := (Below.refl _ w1).alloc (Nat.le_refl _) _
      have hOne : IsD (w1.alloc (Obj.cells #[Value.int .u32 1000000000] 52)) (some ⟨w1.heap.size, 0, none⟩) 1 1000000000 :=
        ⟨(dlen_one (by decide) (by decide)).symm, .inr ⟨_, _, rfl, fun j hj => by match j, hj with | 0, _ => simp [go_sem, dgt, bp_zero]⟩⟩
      refine (times_any a (some ⟨w1.heap.size, 0, none⟩) (dv pre) 1000000000 n 1 c 1 (by omega) (by decide) _ (hI1.below hBa) hOne).mono ?_
      rintro e w2 ⟨a2, n2, c2, rfl, hd2, hc2, hf2, hb2⟩
      have hB2 := hB1.trans ((hBa.trans (hb2.mono hBa.size)).mono hB1.size)
      have hn2 : n2 ≤ 641 := by
        rw [hd2.len]
        exact dlen_nine (by rw [← hI1.len]; exact hn640)
      go_wp2_with fail
      refine (split_any (dv q) (by omega) w2).mono ?_
      rintro e w3 ⟨a3, n3, c3, rfl, hd3, hc3, hf3, hb3⟩
      have hn3 : n3 ≤ 64 := by rw [hd3.len]; exact Nat.le_trans ((dlen_le_iff (k := 1)).2 (by rw [bp_one]; omega)) (by decide)
      have hB3 := hB2.trans (hb3.mono hB2.size)
      go_wp2_with fail
      refine (plus_any a2 a3 (dv pre * 1000000000) (dv q) n2 n3 c2 c3 (by omega) (by omega) w3 (hd2.below hb3) hd3).mono ?_
      rintro e w4 ⟨a4, n4, c4, rfl, hd4, hc4, hf4, hb4⟩
      have hB4 := hB3.trans (hb4.mono hB3.size)
      rw [HV.out.1] at hd4
      go_wp2_with fail
      rw [HX.out]
      go_roundw
      case rel => exact ⟨pre ++ q, r', a4, n4, c4, HV.out.2.2, rfl, rfl, hd4, hc4, hf4.imp id fun h ad e => Nat.le_trans hB3.size (h ad e), .inr HV.out.2.1, hB4⟩
      case measure =>
        show (⟨r'.toArray⟩ : ByteArray).size < (⟨rest.toArray⟩ : ByteArray).size
        rw [bytes_size, bytes_size]
        have := HR.out
        omega
end Go.Proofs.YtmpdeiopdempcaaGreatDoor
