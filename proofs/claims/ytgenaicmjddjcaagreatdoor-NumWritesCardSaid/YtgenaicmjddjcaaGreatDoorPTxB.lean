/- Several texts in one. -/
import Derived.Test.YtgenaicmjddjcaaGreatDoorPTxA
import Derived.Shelf.Pu.ErrVarParseUint
import Derived.Test.YtgenaicmjddjcaaGreatDoorPAd
import Derived.Test.YtgenaicmjddjcaaGreatDoorPRf
import Derived.Laws.OwnMore
import Derived.Laws.IdiomStrings
/- num's parseDecimals of bytes of which one is no decimal digit. -/
namespace Go.Proofs.YtgenaicmjddjcaaGreatDoor
open Go.RowKit Go.Shelf

def Syn (w : World) : Prop := ∃ tp p, w.var? Tryz.prog "strconv.ErrSyntax" = some #[.iface tp p]
theorem gSyn : Tryz.prog.globalNamed "strconv.ErrSyntax" = some 2 := by kernel_rfl
theorem Syn.below {w w' : World} (h : Syn w) (t : Below w.heap.size w w') : Syn w' := by
 obtain ⟨tp, p, h⟩ := h
 refine ⟨tp, p, ?_⟩
 unfold World.var? at h ⊢
 rw [gSyn] at h ⊢
 have hlt : 2 < w.heap.size := by
  rcases Nat.lt_or_ge 2 w.heap.size with h' | h'
  · exact h'
  · rw [Option.bind_some, Array.getElem?_eq_none h'] at h
    cases h
 have e := t.block 2 hlt
 rw [Option.bind_some] at h ⊢
 rw [e]
 exact h
theorem parse_syn {l : List UInt8} (h0 : l ≠ []) (h9 : l.length ≤ 9) (hd : ¬ ∀ c ∈ l, isD c) : Lib.parseUintB 32 l = Lib.parseUintB 32 [] := by
 have main : ∀ (l : List UInt8) (a k : Nat), l.length ≤ k → k ≤ 9 → a * 10 ^ k + 10 ^ k ≤ 10 ^ 9 → (¬ ∀ c ∈ l, isD c) → Lib.parseUintM 4294967295 a l = Lib.parseUintB 32 [] := by
  intro l
  induction l with
  | nil => intro a k _ _ _ hd; exact absurd (fun _ h => by cases h) hd
  | cons c r ih =>
    intro a k hk hk9 ha hd
    obtain ⟨k, rfl⟩ : ∃ j, k = j + 1 := ⟨k - 1, by simp at hk; omega⟩
    by_cases hc : isD c
    · have hp : 0 < 10 ^ k := Nat.pow_pos (by decide)
      have hr : ¬ ∀ c ∈ r, isD c := fun h => hd fun x hx => by
       rcases List.mem_cons.1 hx with rfl | hx
       · exact hc
       · exact h x hx
      rw [Nat.pow_succ] at ha
      have h1 : (a * 10 + 9) * 10 ^ k + 10 ^ k ≤ 10 ^ 9 := by
       rw [Nat.add_mul, Nat.mul_assoc, Nat.mul_comm 10 (10 ^ k)]; omega
      have h2 : a * 10 + 9 < 10 ^ 9 := by
       have : (a * 10 + 9) * 1 ≤ (a * 10 + 9) * 10 ^ k := Nat.mul_le_mul_left _ hp
       omega
      unfold isD at hc
      have h3 : (a * 10 + (c.toNat - 48)) * 10 ^ k ≤ (a * 10 + 9) * 10 ^ k := Nat.mul_le_mul_right _ (by omega)
      rw [Lib.parseUintM, if_pos hc, if_neg (by omega), if_neg (by omega), ih _ k (by simp at hk; omega) (by omega) (by omega) hr]
    · unfold isD at hc
      rw [Lib.parseUintM, if_neg hc]; rfl
 unfold Lib.parseUintB
 rw [if_neg h0]
 exact main l 0 9 h9 (Nat.le_refl _) (by decide) hd

set_option maxRecDepth 100000 in
set_option maxHeartbeats 4000000 in
theorem pdec_bad (l : List UInt8) (h640 : l.length ≤ 640) (hd : ∃ c ∈ l, ¬ isD c) (w : World) (hsy : Syn w) :
 Calls Tryz.prog 72 #[.string ⟨l.toArray⟩] w fun e w' => e = .returned (.tuple #[.slice none 0 0, .bool false]) ∧ Below w.heap.size w w' := by
 have HD := hide hd
 clear hd
 go_enter Tryz.func72, Tryz.ntmps72
 go_wp2_with fail
 go_loopw [0, 4] (fun p gv wr => ∃ (pre rest : List UInt8) (a : Option Addr) (n c : Nat), l = pre ++ rest ∧ (∀ c ∈ pre, isD c) ∧ p = .string ⟨rest.toArray⟩ ∧ gv = .slice a n c ∧ IsD wr a n (dv pre) ∧ n ≤ c ∧ (n = 0 ∨ Fresh w a) ∧ (pre = [] ∨ rest.length % 9 = 0) ∧ Below w.heap.size w wr)
  (fun p _ _ => strLen p)
 case atStart => exact ⟨[], l, none, 0, 0, rfl, (fun _ h => by cases h), rfl, rfl, ⟨by unfold dv; rw [dvA_nil, dlen_zero], .inl rfl⟩, Nat.le_refl _, .inl rfl, .inl rfl, Below.refl _ _⟩
 case round =>
  obtain ⟨pre, rest, a, n, c, hl, hpre, rfl, rfl, hI, hnc, hf, h9, hB⟩ := hrel
  have hs : (⟨rest.toArray⟩ : ByteArray).size = rest.length := bytes_size rest
  by_cases hr : rest = []
  · exfalso
    subst hr
    obtain ⟨c, hc, hn⟩ := HD.out
    rw [hl, List.append_nil] at hc
    exact hn (hpre c hc)
  · have hpos : 0 < rest.length := List.length_pos_iff.2 hr
    have hlen : rest.length ≤ 640 := by have := congrArg List.length hl; rw [List.length_append] at this; omega
    have hpos' : (0 : Int) < rest.length := by omega
    go_wp2_with fail
    obtain ⟨m, hm⟩ : ∃ m, (rest.length - 1) % 9 + 1 = m := ⟨_, rfl⟩
    have hmi : ((rest.length : Int) - 1) % 9 + 1 = (m : Int) := by omega
    have hm1 : 1 ≤ m ∧ m ≤ 9 ∧ m ≤ rest.length := by omega
    obtain ⟨q, hq⟩ : ∃ q, rest.take m = q := ⟨_, rfl⟩
    obtain ⟨r', hr'⟩ : ∃ r', rest.drop m = r' := ⟨_, rfl⟩
    have hqr : rest = q ++ r' := by rw [← hq, ← hr', List.take_append_drop]
    have hql : q.length = m := by rw [← hq, List.length_take]; omega
    have hrl : r'.length = rest.length - m := by rw [← hr', List.length_drop]
    have hx1 : (⟨rest.toArray⟩ : ByteArray).extract 0 m = ⟨q.toArray⟩ := by rw [bytes_extract]; simp [← hq]
    have hq0 : q ≠ [] := fun e => by rw [e] at hql; simp at hql; omega
    rw [hm, hx1, hmi]
    by_cases hqd : ∀ c ∈ q, isD c
    case neg =>
     obtain ⟨tp, p, hv⟩ := hsy.below hB
     have hsyn := parse_syn hq0 (by omega) hqd
     refine (Any.strconv_ParseUint_10_at32_syntax_var Tryz.laysPu14 ⟨q.toArray⟩ (by rw [bytes_size]; omega) hsyn tp p wr hv).mono ?_
     rintro e w1 ⟨N, rfl, -, -, hb1⟩
     have hB1 := hB.trans (hb1.mono hB.size)
     clear hx1 hq hr' h9 hl hqd hI hmi hrl hv hsyn
     go_wp2
     go_ret2
     exact ⟨rfl, hB1⟩
    have hpart := parse_nine hq0 (by omega) hqd
    have hqv := dv_lt q hqd
    have hx2 : (⟨rest.toArray⟩ : ByteArray).extract m rest.length = ⟨r'.toArray⟩ := by rw [bytes_extract, ← hr', List.take_of_length_le (by simp)]
    have hq10 : dv q < 1000000000 := lt_nine (by rw [← hql]; exact hqv) hm1.2.1
    have hval : dv pre * 1000000000 + dv q = dv (pre ++ q) := by
     rw [dv_append]
     rcases h9 with h | h
     · have h0 : dv pre = 0 := by rw [h]; exact dvA_nil 0
       rw [h0, Nat.zero_mul, Nat.zero_mul]
     · rw [hql, show m = 9 by omega]
    have hrm : r'.length % 9 = 0 := by omega
    have hl2 : l = (pre ++ q) ++ r' := by rw [hl, hqr, List.append_assoc]
    have hmr : (m : Int) ≤ rest.length := by omega
    refine (Tryz.strconv_ParseUint_10_at32_ok ⟨q.toArray⟩ (by rw [bytes_size]; omega) (dv q) hpart wr).mono ?_
    rintro e w1 ⟨rfl, hw1⟩
    have hB1' : Below wr.heap.size wr w1 := by
     rcases hw1 with rfl | rfl
     · exact Below.refl _ _
     · exact below_bytes _ _ _
    have hB1 := hB.trans (hB1'.mono hB.size)
    have hI1 := hI.below hB1'
    have hn640 : n ≤ 640 := by
     rw [hI.len]
     exact dlen_dv hpre (by have := congrArg List.length hl; rw [List.length_append] at this; omega)
    have hpq : ∀ c ∈ pre ++ q, isD c := fun c hc => (List.mem_append.1 hc).elim (hpre c) (hqd c)
    have HV := hide (And.intro hval (And.intro hrm hl2))
    have HPQ := hide hpq
    have HX := hide hx2
    have HM := hide hmi
    have HR := hide (And.intro hrl hm1)
    clear hpq hpre hw1 hval hrm hl2 hqr hpart hqv hx1 hq hr' h9 hl hqd hx2 hI hB1' hmi hrl
    go_wp2_with fail
    have hBa : Below w1.heap.size w1 (w1.alloc (Obj.cells #[.int .u32 1000000000] 68)) := (Below.refl _ w1).alloc (Nat.le_refl _) _
    have hOne : IsD (w1.alloc (Obj.cells #[.int .u32 1000000000] 68)) (some ⟨w1.heap.size, 0, none⟩) 1 1000000000 :=
     ⟨(dlen_one (by decide) (by decide)).symm, .inr ⟨_, _, rfl, fun j hj => by match j, hj with | 0, _ => simp [go_sem, dgt, bp_zero]⟩⟩
    refine (times_any a (some ⟨w1.heap.size, 0, none⟩) (dv pre) 1000000000 n 1 c 1 (by omega) (by decide) _ (hI1.below hBa) hOne).mono ?_
    rintro e w2 ⟨a2, n2, c2, rfl, hd2, hc2, hf2, hb2⟩
    have hB2 := hB1.trans ((hBa.trans (hb2.mono hBa.size)).mono hB1.size)
    have hn2 : n2 ≤ 641 := by
     rw [hd2.len]
     exact dlen_nine (by rw [← hI1.len]; exact hn640)
    go_wp2_with fail
    refine (split_any (dv q) (by omega) w2).mono ?_
    rintro e w3 ⟨a3, n3, c3, rfl, hd3, hc3, hf3, hb3⟩
    have hn3 : n3 ≤ 64 := by rw [hd3.len]; exact Nat.le_trans ((dlen_le_iff (k := 1)).2 (by rw [bp_one]; omega)) (by decide)
    have hB3 := hB2.trans (hb3.mono hB2.size)
    go_wp2_with fail
    refine (plus_any a2 a3 (dv pre * 1000000000) (dv q) n2 n3 c2 c3 (by omega) (by omega) w3 (hd2.below hb3) hd3).mono ?_
    rintro e w4 ⟨a4, n4, c4, rfl, hd4, hc4, hf4, hb4⟩
    have hB4 := hB3.trans (hb4.mono hB3.size)
    rw [HV.out.1] at hd4
    go_wp2_with fail
    rw [HX.out]
    go_roundw
    case rel => exact ⟨pre ++ q, r', a4, n4, c4, HV.out.2.2, HPQ.out, rfl, rfl, hd4, hc4, hf4.imp id fun h ad e => Nat.le_trans hB3.size (h ad e), .inr HV.out.2.1, hB4⟩
    case measure =>
     show (⟨r'.toArray⟩ : ByteArray).size < (⟨rest.toArray⟩ : ByteArray).size
     rw [bytes_size, bytes_size]
     have := HR.out
     omega
end Go.Proofs.YtgenaicmjddjcaaGreatDoor

/- num's Parse of whatever string. -/
namespace Go.Proofs.YtgenaicmjddjcaaGreatDoor
open Go.RowKit Go.Shelf

theorem number_opt (neg : Bool) (a : Option Addr) (n cap v : Nat) (hcap : n ≤ cap) (hn : n ≤ 1099511627776) (w : World) (hd : IsD w a n v) {O : Option Int} (HO : Hid (fitO (signed neg v) = O)) :
 Calls Tryz.prog 73 #[.bool neg, .slice a n cap] w fun e w' => ∃ (s : Bool) (a' : Option Addr) (n' cap' : Nat), e = .returned (.tuple #[.agg #[.bool s, .slice a' n' cap'], .bool O.isSome]) ∧
  IsN w' s a' n' (O.getD 0) ∧ (n' = 0 ∨ a' = a ∧ n' = n) ∧ n' ≤ 64 ∧ Below w.heap.size w w' := by
 by_cases h : n ≤ 64
 · have hf : fitO (signed neg v) = some (signed neg v) := fitO_some (by rw [signed_abs, ← hd.len]; exact h)
   rw [← HO.out, hf]
   refine (number_of neg a n cap v hcap h w hd).mono ?_
   rintro e w' ⟨s, a', n', c', rfl, hN, ha, hb⟩
   have hnn : n' = n := by rw [hN.dig.len, hd.len, signed_abs]
   exact ⟨s, a', n', c', rfl, hN, ha.imp id fun e => ⟨e, hnn⟩, by omega, hb⟩
 · have hf : fitO (signed neg v) = none := fitO_none (by rw [signed_abs, ← hd.len]; exact h)
   rw [← HO.out, hf]
   refine (number_over neg a n cap v hcap (by omega) hn w hd).mono ?_
   rintro e w' ⟨rfl, hb⟩
   exact ⟨false, none, 0, 0, rfl, zero_num _, .inl rfl, by omega, hb⟩

set_option maxRecDepth 100000 in
set_option maxHeartbeats 2000000 in
theorem parse_len0 (S D : ByteArray) (neg : Bool) (hD : D.size = 0) (w : World) (HCUT : Hid (∀ W, Calls Tryz.prog 71 #[.string S, .string ⟨#[45]⟩] W fun e w' => e = .returned (.tuple #[.string D, .bool neg]) ∧ w' = W)) :
 Calls Tryz.prog 13 #[.string S] w (NoPost w) := by
 go_enter Tryz.func13, Tryz.ntmps13
 go_wp2_with fail
 have bC : Box2 (w.alloc (Obj.cells #[.bool false, .slice none 0 0] 25)) w.heap.size (.bool false) (.slice none 0 0) := Box2.new _ _ _ _
 have hB0 : Below w.heap.size w (w.alloc (Obj.cells #[.bool false, .slice none 0 0] 25)) := (Below.refl _ w).alloc (Nat.le_refl _) _
 obtain ⟨W0, hW0⟩ : ∃ W0, w.alloc (Obj.cells #[.bool false, .slice none 0 0] 25) = W0 := ⟨_, rfl⟩
 rw [hW0] at bC hB0 ⊢
 clear hW0
 refine (HCUT.out W0).mono ?_
 rintro e w' ⟨rfl, rfl⟩
 have K := hide (no_store bC (by omega) hB0)
 obtain ⟨r0, r1, z0, z1⟩ := bC
 go_wp2
 obtain ⟨⟨q0, q1, -, -⟩, hBB⟩ := K.out
 exact bodyPost_ret (v := .tuple #[.agg #[.bool false, .slice none 0 0], .bool false]) (by simp [results, Tryz.results13, go_sem, q0, q1]) rfl ⟨rfl, hBB⟩

set_option maxRecDepth 100000 in
set_option maxHeartbeats 2000000 in
theorem parse_long (S D : ByteArray) (neg : Bool) (hD : 640 < D.size) (w : World) (HCUT : Hid (∀ W, Calls Tryz.prog 71 #[.string S, .string ⟨#[45]⟩] W fun e w' => e = .returned (.tuple #[.string D, .bool neg]) ∧ w' = W)) :
 Calls Tryz.prog 13 #[.string S] w (NoPost w) := by
 have h0 : ((D.size : Int) == 0) = false := beq_eq_false_iff_ne.2 (by omega)
 have h1 : (640 : Int) < (D.size : Int) := by omega
 go_enter Tryz.func13, Tryz.ntmps13
 go_wp2_with fail
 have bC : Box2 (w.alloc (Obj.cells #[.bool false, .slice none 0 0] 25)) w.heap.size (.bool false) (.slice none 0 0) := Box2.new _ _ _ _
 have hB0 : Below w.heap.size w (w.alloc (Obj.cells #[.bool false, .slice none 0 0] 25)) := (Below.refl _ w).alloc (Nat.le_refl _) _
 obtain ⟨W0, hW0⟩ : ∃ W0, w.alloc (Obj.cells #[.bool false, .slice none 0 0] 25) = W0 := ⟨_, rfl⟩
 rw [hW0] at bC hB0 ⊢
 clear hW0
 refine (HCUT.out W0).mono ?_
 rintro e w' ⟨rfl, rfl⟩
 have K := hide (no_store bC (by omega) hB0)
 obtain ⟨r0, r1, z0, z1⟩ := bC
 go_wp2
 obtain ⟨⟨q0, q1, -, -⟩, hBB⟩ := K.out
 exact bodyPost_ret (v := .tuple #[.agg #[.bool false, .slice none 0 0], .bool false]) (by simp [results, Tryz.results13, go_sem, q0, q1]) rfl ⟨rfl, hBB⟩

set_option maxRecDepth 100000 in
set_option maxHeartbeats 2000000 in
theorem parse_zeros (S : ByteArray) (c : UInt8) (r : List UInt8) (neg : Bool) (hr : r.length + 1 ≤ 640) (hc : c.toNat = 48) (hS : (S.toList == [48]) = false) (w : World) (HCUT : Hid (∀ W, Calls Tryz.prog 71 #[.string S, .string ⟨#[45]⟩] W fun e w' => e = .returned (.tuple #[.string ⟨(c :: r).toArray⟩, .bool neg]) ∧ w' = W)) :
 Calls Tryz.prog 13 #[.string S] w (NoPost w) := by
 have hsz : (⟨(c :: r).toArray⟩ : ByteArray).size = r.length + 1 := by rw [bytes_size]; rfl
 have hl0 : ((r.length : Int) + 1 == 0) = false := by simp; omega
 have hl1 : ¬ (640 : Int) < (r.length : Int) + 1 := by omega
 have hc48 : ((((⟨(c :: r).toArray⟩ : ByteArray)[0]'(by rw [hsz]; omega)).toNat : Int) == 48) = true := by
  show ((c.toNat : Int) == 48) = true
  simp; omega
 go_enter Tryz.func13, Tryz.ntmps13
 go_wp2_with fail
 have bC : Box2 (w.alloc (Obj.cells #[.bool false, .slice none 0 0] 25)) w.heap.size (.bool false) (.slice none 0 0) := Box2.new _ _ _ _
 have hB0 : Below w.heap.size w (w.alloc (Obj.cells #[.bool false, .slice none 0 0] 25)) := (Below.refl _ w).alloc (Nat.le_refl _) _
 obtain ⟨W0, hW0⟩ : ∃ W0, w.alloc (Obj.cells #[.bool false, .slice none 0 0] 25) = W0 := ⟨_, rfl⟩
 rw [hW0] at bC hB0 ⊢
 clear hW0
 refine (HCUT.out W0).mono ?_
 rintro e w' ⟨rfl, rfl⟩
 have K := hide (no_store bC (by omega) hB0)
 obtain ⟨r0, r1, z0, z1⟩ := bC
 go_wp2
 obtain ⟨⟨q0, q1, -, -⟩, hBB⟩ := K.out
 exact bodyPost_ret (v := .tuple #[.agg #[.bool false, .slice none 0 0], .bool false]) (by simp [results, Tryz.results13, go_sem, q0, q1]) rfl ⟨rfl, hBB⟩

set_option maxRecDepth 100000 in
set_option maxHeartbeats 2000000 in
theorem parse_bad (S : ByteArray) (c : UInt8) (r : List UInt8) (neg : Bool) (hr : r.length + 1 ≤ 640) (hc : c.toNat ≠ 48) (hb : ∃ x ∈ c :: r, ¬ isD x) (w : World) (hsy : Syn w) (HCUT : Hid (∀ W, Calls Tryz.prog 71 #[.string S, .string ⟨#[45]⟩] W fun e w' => e = .returned (.tuple #[.string ⟨(c :: r).toArray⟩, .bool neg]) ∧ w' = W)) :
 Calls Tryz.prog 13 #[.string S] w (NoPost w) := by
 have hsz : (⟨(c :: r).toArray⟩ : ByteArray).size = r.length + 1 := by rw [bytes_size]; rfl
 have hl0 : ((r.length : Int) + 1 == 0) = false := by simp; omega
 have hl1 : ¬ (640 : Int) < (r.length : Int) + 1 := by omega
 have hc48 : ((((⟨(c :: r).toArray⟩ : ByteArray)[0]'(by rw [hsz]; omega)).toNat : Int) == 48) = false := by
  show ((c.toNat : Int) == 48) = false
  simp; omega
 have HP := hide fun W (h : Syn W) => pdec_bad (c :: r) (by simpa using hr) hb W h
 go_enter Tryz.func13, Tryz.ntmps13
 go_wp2_with fail
 have bC : Box2 (w.alloc (Obj.cells #[.bool false, .slice none 0 0] 25)) w.heap.size (.bool false) (.slice none 0 0) := Box2.new _ _ _ _
 have hB0 : Below w.heap.size w (w.alloc (Obj.cells #[.bool false, .slice none 0 0] 25)) := (Below.refl _ w).alloc (Nat.le_refl _) _
 obtain ⟨W0, hW0⟩ : ∃ W0, w.alloc (Obj.cells #[.bool false, .slice none 0 0] 25) = W0 := ⟨_, rfl⟩
 rw [hW0] at bC hB0 ⊢
 clear hW0
 refine (HCUT.out W0).mono ?_
 rintro e w' ⟨rfl, rfl⟩
 go_wp2_with fail
 refine (HP.out w' (hsy.below hB0)).mono ?_
 rintro e w1 ⟨rfl, hb1⟩
 have hB0 := hB0.trans (hb1.mono hB0.size)
 have bC := bC.below hb1 bC.lt
 have K := hide (no_store bC (by omega) hB0)
 obtain ⟨r0, r1, z0, z1⟩ := bC
 go_wp2
 obtain ⟨⟨q0, q1, -, -⟩, hBB⟩ := K.out
 exact bodyPost_ret (v := .tuple #[.agg #[.bool false, .slice none 0 0], .bool false]) (by simp [results, Tryz.results13, go_sem, q0, q1]) rfl ⟨rfl, hBB⟩

set_option maxRecDepth 100000 in
set_option maxHeartbeats 2000000 in
theorem parse_good (S : ByteArray) (c : UInt8) (r : List UInt8) (neg : Bool) (hr : r.length + 1 ≤ 640) (hc : c.toNat ≠ 48) (hb : ∀ x ∈ c :: r, isD x) {O : Option Int} (HO : Hid (fitO (signed neg (dv (c :: r))) = O)) (w : World) (HCUT : Hid (∀ W, Calls Tryz.prog 71 #[.string S, .string ⟨#[45]⟩] W fun e w' => e = .returned (.tuple #[.string ⟨(c :: r).toArray⟩, .bool neg]) ∧ w' = W)) :
 Calls Tryz.prog 13 #[.string S] w (OptPost w O) := by
 have hsz : (⟨(c :: r).toArray⟩ : ByteArray).size = r.length + 1 := by rw [bytes_size]; rfl
 have hl0 : ((r.length : Int) + 1 == 0) = false := by simp; omega
 have hl1 : ¬ (640 : Int) < (r.length : Int) + 1 := by omega
 have hc48 : ((((⟨(c :: r).toArray⟩ : ByteArray)[0]'(by rw [hsz]; omega)).toNat : Int) == 48) = false := by
  show ((c.toNat : Int) == 48) = false
  simp; omega
 have hpd := fun W => pdec_ok (c :: r) (by simpa using hr) hb W
 have HLN : Hid (dlen (dv (c :: r)) ≤ 1099511627776) := Nat.le_trans (dlen_dv hb (k := 640) (by simpa using hr)) (by decide)
 obtain ⟨V, hV⟩ : ∃ V, dv (c :: r) = V := ⟨_, rfl⟩
 rw [hV] at hpd HO HLN
 have HP := hide hpd
 clear hpd hV
 go_enter Tryz.func13, Tryz.ntmps13
 go_wp2_with fail
 have bC : Box2 (w.alloc (Obj.cells #[.bool false, .slice none 0 0] 25)) w.heap.size (.bool false) (.slice none 0 0) := Box2.new _ _ _ _
 have hB0 : Below w.heap.size w (w.alloc (Obj.cells #[.bool false, .slice none 0 0] 25)) := (Below.refl _ w).alloc (Nat.le_refl _) _
 obtain ⟨W0, hW0⟩ : ∃ W0, w.alloc (Obj.cells #[.bool false, .slice none 0 0] 25) = W0 := ⟨_, rfl⟩
 rw [hW0] at bC hB0 ⊢
 clear hW0
 refine (HCUT.out W0).mono ?_
 rintro e w' ⟨rfl, rfl⟩
 go_wp2_with fail
 refine (HP.out w').mono ?_
 rintro e w1 ⟨a1, n1, c1, rfl, hd1, hc1, hf1, hb1⟩
 have hB1 := hB0.trans (hb1.mono hB0.size)
 have bC1 := bC.below hb1 bC.lt
 have hn1 : n1 ≤ 1099511627776 := by rw [hd1.len]; exact HLN.out
 go_wp2_with fail
 refine (number_opt neg a1 n1 c1 V hc1 hn1 w1 hd1 HO).mono ?_
 rintro e w2 ⟨s2, a2, n2, c2, rfl, hn2, ha2, h64, hb2⟩
 have hB2 := hB1.trans (hb2.mono hB1.size)
 have bC2 := bC1.below hb2 bC1.lt
 have hlt := bC.lt
 have hfq : n2 = 0 ∨ ∀ ad, a2 = some ad → w'.heap.size ≤ ad.block := by
  rcases ha2 with h | ⟨h, hn⟩
  · exact .inl h
  · rcases hf1 with h' | h'
    · exact .inl (hn.trans h')
    · exact .inr fun ad e => h' ad (h ▸ e)
 obtain ⟨hbx, hN, hBB⟩ := num_store (cap := c2) bC2 (Nat.le_refl _) hB2 hn2 (hfq.imp id fun h ad e => by have := h ad e; omega)
 have hN' := hide hN
 clear hN
 obtain ⟨q0, q1, -, -⟩ := hbx
 obtain ⟨r0, r1, z0, z1⟩ := bC2
 go_wp2
 exact bodyPost_ret (v := .tuple #[.agg #[.bool s2, .slice a2 n2 c2], .bool O.isSome]) (by simp [results, Tryz.results13, go_sem, q0, q1]) rfl ⟨_, _, _, _, rfl, hN'.out, h64, hfq.imp id fun h ad e => Nat.le_trans hB0.size (h ad e), hBB⟩

def headP (l : List UInt8) : List UInt8 := Lib.trimPrefix l [45]
def negP (l : List UInt8) : Bool := Lib.hasPrefix l [45]
def okP (l : List UInt8) : Bool := (match headP l with | [] => false | c :: _ => (headP l).length ≤ 640 && (c.toNat != 48 || l == [48])) && (headP l).all fun c => decide (isD c)
def parseO (l : List UInt8) : Option Int := if okP l = true then fitO (signed (negP l) (dv (headP l))) else none
theorem parse_any (l : List UInt8) (w : World) (hsy : Syn w) :
 Calls Tryz.prog 13 #[.string ⟨l.toArray⟩] w (OptPost w (parseO l)) := by
 have HCUT : Hid (∀ W, Calls Tryz.prog 71 #[.string ⟨l.toArray⟩, .string ⟨#[45]⟩] W fun e w' => e = .returned (.tuple #[.string ⟨(headP l).toArray⟩, .bool (negP l)]) ∧ w' = W) := fun W => Tryz.strings_CutPrefix ⟨l.toArray⟩ ⟨#[45]⟩ W
 obtain ⟨ds, hds⟩ : ∃ ds, headP l = ds := ⟨_, rfl⟩
 rw [hds] at HCUT
 cases ds with
 | nil =>
   have ho : parseO l = none := by unfold parseO okP; rw [hds]; simp
   exact (parse_len0 ⟨l.toArray⟩ ⟨[].toArray⟩ (negP l) rfl w HCUT).mono fun e w' h => h.opt ho
 | cons c r =>
   by_cases hlong : r.length + 1 ≤ 640
   · by_cases hz : c.toNat = 48
     · by_cases hl : l = [48]
       · subst hl
         have ho : parseO [48] = some 0 := by
          have h1 : headP [48] = [48] := by decide
          have h2 : okP [48] = true := by decide
          have h3 : negP [48] = false := by decide
          unfold parseO
          rw [if_pos h2, h1, h3, dv_one]
          exact fitO_some (by show dlen 0 ≤ 64; rw [dlen_zero]; decide)
         rw [ho]
         exact (parse_zero w).mono fun e w' h => h.opt (by show dlen 0 ≤ 64; rw [dlen_zero]; decide)
       · have ho : parseO l = none := by
          unfold parseO okP; rw [hds]; simp [hz, hl]
         have hS : ((⟨l.toArray⟩ : ByteArray).toList == [48]) = false := by rw [bytes_toList]; exact beq_eq_false_iff_ne.2 hl
         exact (parse_zeros ⟨l.toArray⟩ c r (negP l) hlong hz hS w HCUT).mono fun e w' h => h.opt ho
     · by_cases hall : ∀ x ∈ c :: r, isD x
       · have ho : okP l = true := by
          unfold okP; rw [hds]
          have : (c :: r).all (fun c => decide (isD c)) = true := List.all_eq_true.2 fun x hx => decide_eq_true (hall x hx)
          simp [hz, this]; omega
         have hp : parseO l = fitO (signed (negP l) (dv (c :: r))) := by unfold parseO; rw [if_pos ho, hds]
         rw [hp]
         exact parse_good ⟨l.toArray⟩ c r (negP l) hlong hz hall (hide rfl) w HCUT
       · have ho : parseO l = none := by
          unfold parseO okP; rw [hds]
          have : (c :: r).all (fun c => decide (isD c)) = false := by
           rw [List.all_eq_false]
           apply Classical.byContradiction
           intro hn
           exact hall fun x hx => Classical.byContradiction fun h => hn ⟨x, hx, by simpa using h⟩
          rw [this]; simp
         have hb : ∃ x ∈ c :: r, ¬ isD x := Classical.byContradiction fun hn => hall fun x hx => Classical.byContradiction fun h => hn ⟨x, hx, h⟩
         exact (parse_bad ⟨l.toArray⟩ c r (negP l) hlong hz hb w hsy HCUT).mono fun e w' h => h.opt ho
   · have ho : parseO l = none := by
      unfold parseO okP; rw [hds]; simp; omega
     exact (parse_long ⟨l.toArray⟩ ⟨(c :: r).toArray⟩ (negP l) (by rw [bytes_size]; simp; omega) w HCUT).mono fun e w' h => h.opt ho
end Go.Proofs.YtgenaicmjddjcaaGreatDoor

/- The reference's Text of a right Num other than 0. -/
namespace Go.Proofs.YtgenaicmjddjcaaGreatDoor
open Go.RowKit Go.Shelf

theorem conv_one {dd : Nat} {cd : UInt8} (h : dd ≤ 9) (hcd : UInt8.ofNat (48 + dd) = cd) {W : World} {B : Nat} (hc : W.cell? ⟨B, 0, none⟩ = some (.int .u8 (48 + (dd : Int)))) :
 (convert 79 9 (.slice (some ⟨B, 0, none⟩) 1 1)).run Tryz.prog W = .ok (.string ⟨#[cd]⟩) W := by
 subst hcd
 refine run_convert_bytes_back (P := Tryz.prog) W 79 9 5 ⟨B, 0, none⟩ 1 [UInt8.ofNat (48 + dd)] Tryz.underlying79 Tryz.underlying5 Tryz.underlying9 (fun j hj => ?_)
 obtain rfl : j = 0 := by simpa using hj
 show W.cell? ⟨B, 0, none⟩ = some (.int .u8 (((UInt8.ofNat (48 + dd)).toNat : Nat) : Int))
 rw [hc, toNat_dig (by omega)]
 simp
theorem app_bytes (a b : List UInt8) : ((⟨a.toArray⟩ : ByteArray) ++ ⟨b.toArray⟩) = ⟨(a ++ b).toArray⟩ := by
 apply ByteArray.ext
 simp
theorem dec_round {V q : Nat} {ol : List UInt8} (_hq : q ≠ 0) (h : Lib.decDigits V = Lib.decDigits q ++ ol) :
 (q / 10 ≠ 0 ∧ Lib.decDigits V = Lib.decDigits (q / 10) ++ ([UInt8.ofNat (48 + q % 10)] ++ ol)) ∨ (q / 10 = 0 ∧ Lib.decDigits V = [UInt8.ofNat (48 + q % 10)] ++ ol) := by
 by_cases h10 : q < 10
 · refine .inr ⟨by omega, ?_⟩
   rw [h, dec_small h10, Nat.mod_eq_of_lt h10]
 · refine .inl ⟨by omega, ?_⟩
   rw [h, dec_big h10, List.append_assoc]

set_option maxRecDepth 100000 in
set_option maxHeartbeats 4000000 in
theorem rtext_pos (s : Bool) (a : Option Addr) (n cap : Nat) (z : Int) (hn0 : 0 < n) (hn : n ≤ 64) (w : World) (h : IsN w s a n z) :
 Calls Tryz.prog 11 #[.agg #[.bool s, .slice a n cap]] w fun e w' => e = .returned (.string ⟨(txtZ z).toArray⟩) ∧ Below w.heap.size w w' := by
 obtain ⟨i0, hi, hz0, hz1, hz2⟩ := info_parts info_u32
 have HI := hide hi
 have HZ := hide (And.intro hz0 (And.intro hz1 hz2))
 clear hi hz0 hz1 hz2
 obtain ⟨V, hV⟩ : ∃ V, z.natAbs = V := ⟨_, rfl⟩
 have hD := h.dig
 rw [hV] at hD
 have HD0 := hide (And.intro hD.len hV)
 have HS := hide (And.intro h.sign (h.below (below_alloc' w (Obj.cells #[.bool s, .slice a n cap] 25))))
 have HDD := hide hD
 clear hV hD
 have hnz : ((n : Int) == 0) = false := beq_eq_false_iff_ne.2 (by omega)
 have bA : Box2 (w.alloc (Obj.cells #[.bool s, .slice a n cap] 25)) w.heap.size (.bool s) (.slice a n cap) := Box2.new _ _ _ _
 have hB0 := below_alloc' w (Obj.cells #[.bool s, .slice a n cap] 25)
 go_enter Tryz.func11, Tryz.ntmps11
 go_wp2_with fail
 obtain ⟨W0, hW0⟩ : ∃ W0, w.alloc (Obj.cells #[.bool s, .slice a n cap] 25) = W0 := ⟨_, rfl⟩
 have HH : IsN W0 s a n z := by have := HS.out.2; rw [hW0] at this; exact this
 rw [hW0] at bA hB0 ⊢
 clear hW0
 refine (rright_arg s a n cap (some z) W0 ⟨HH, hn⟩).mono ?_
 rintro e w1 ⟨rfl, hb1⟩
 have bA1 := bA.below hb1 bA.lt
 have hB1 := hB0.trans (hb1.mono hB0.size)
 have hD1 := HDD.out.below hB1
 obtain ⟨b, off, rfl, hc⟩ := hD1.dig.at hn0
 have hlt1 := hc.lt hn0
 have HC := hide hc
 have hbA := bA1.lt
 obtain ⟨a0, a1, -, -⟩ := bA1
 clear hc hD1 h bA HH
 go_wp2_with (at_builtin; refine wpList_append_own _ rfl _ _ 23 rfl w1.heap.size 68 i0 (.int .u32 0) 1 4 Tryz.underlying23 HI.out HZ.out.1 HZ.out.2.1 HZ.out.2.2 rfl (by decide) (.slice (some ⟨w1.heap.size, 0, none⟩) 0 0) 0 [] rfl (World.ownsRow_made w1 #[] 0 (Nat.le_refl _) (by unfold maxLen; omega) rfl) ⟨b, off, none⟩ n cap (digVals (dgt V) n) rfl (by rw [digVals_length]; omega) ?c1 (digVals_one (dgt V) n) ?c3 ?c4 ?c5 ?_)
 case c1 =>
  intro j u hj
  have hjn : j < n := by have := (List.getElem?_eq_some_iff.1 hj).1; rw [digVals_length] at this; exact this
  rw [digVals_get (dgt V) hjn] at hj
  cases hj
  have := (HC.out.below (below_alloc' w1 (Obj.cells #[] 68)) (.inr (by have := HC.out.lt (by omega); exact this))) j hjn
  rw [← this]; congr 1; unfold Addr.add; split <;> simp_all
 case c3 => unfold maxLen; omega
 case c4 => omega
 case c5 => simp
 intro v' w2 hown hgrow _
 obtain ⟨g, c, rfl, hg, hgc, hcg⟩ := owns_digs hown hn0
 have hfg : Free w2 g 0 n := fun j hj => by have := hown.frozenAt j; rw [Nat.zero_add]; exact this
 have hbk : w2.heap[w.heap.size]? = w1.heap[w.heap.size]? := by
  rw [hgrow.block w.heap.size (by rw [World.size_alloc]; omega) (fun e => by have e' : w.heap.size = w1.heap.size := Option.some.inj e; omega), Below.heap_alloc w1 _ _ hbA]
 have hB2 : Below w.heap.size w w2 := (hB1.alloc hB1.size _).grown hgrow (by rw [World.size_alloc]; have := hB1.size; omega) (fun k e => by have e' : w1.heap.size = k := Option.some.inj e; have := hB1.size; omega)
 have c0 : w2.cell? ⟨w.heap.size, 0, none⟩ = some (.bool s) := by rw [cell_of_block_eq hbk]; exact a0
 have hgw : w.heap.size < g := Nat.lt_of_lt_of_le hbA hg
 have HG := hide (And.intro hcg hfg)
 have hs2 : w1.heap.size ≤ w2.heap.size := by have := hgrow.size; rw [World.size_alloc] at this; omega
 clear a0 a1 hcg hfg hown hgrow hbk
 go_wp2_with fail
 go_loopw [3, 4] (fun ov dv wr => ∃ (q : Nat) (ol : List UInt8) (la : Option Addr) (lc : Nat), ov = .string ⟨ol.toArray⟩ ∧ dv = .slice la (dlen q) lc ∧ (la = some ⟨g, 0, none⟩ ∨ dlen q = 0) ∧ dlen q ≤ lc ∧ dlen q ≤ n ∧ Cells wr g 0 (dlen q) (dgt q) ∧ Free wr g 0 (dlen q) ∧
  ((q ≠ 0 ∧ Lib.decDigits V = Lib.decDigits q ++ ol) ∨ (q = 0 ∧ Lib.decDigits V = ol)) ∧ wr.cell? ⟨w.heap.size, 0, none⟩ = some (.bool s) ∧ g < wr.heap.size ∧ Below w.heap.size w wr)
  (fun ov _ _ => Lib.nDigits V + 1 - strLen ov)
 case atStart =>
  refine ⟨V, [], some ⟨g, 0, none⟩, c, rfl, by rw [← HD0.out.1], .inl rfl, by rw [← HD0.out.1]; exact hgc, by rw [← HD0.out.1]; exact Nat.le_refl _, by rw [← HD0.out.1]; exact HG.out.1, by rw [← HD0.out.1]; exact HG.out.2, .inl ⟨fun e => ?_, by rw [List.append_nil]⟩, c0, HG.out.1.lt hn0, hB2⟩
  have := HD0.out.1
  rw [e, dlen_zero] at this; omega
 case round =>
  obtain ⟨q, ol, la, lc, rfl, rfl, hla, hlc, hln, hcx, hfx, hst, hc0, hgl, hB⟩ := hrel
  rcases hst with ⟨hq, hdec⟩ | ⟨hq, hdec⟩
  · have hl0 : 0 < dlen q := Nat.pos_of_ne_zero fun e => hq (dlen_eq_zero.1 e)
    obtain rfl : la = some ⟨g, 0, none⟩ := by rcases hla with h | h; exact h; omega
    have hqb := lt_bp_dlen q
    have hlens : ol.length + Lib.nDigits q = Lib.nDigits V := by
     have := congrArg List.length hdec
     rw [List.length_append, Lib.decDigits_length, Lib.decDigits_length] at this; omega
    have hndp := Lib.nDigits_pos q
    have hndV : Lib.nDigits V ≤ 640 := nd_fit (by rw [← HD0.out.1]; exact hn)
    obtain ⟨l, hl⟩ : ∃ l, dlen q = l := ⟨_, rfl⟩
    rw [hl] at hlc hln hcx hfx hl0 hqb ⊢
    have HDEC := hide (dec_round hq hdec)
    have HL := hide (And.intro hl hqb)
    have HCX := hide (And.intro hcx hfx)
    have HLEN := hide (And.intro hlens hndV)
    have hlpos : (0 : Int) < l := by omega
    clear hdec hl hqb hcx hfx hlens hla hq
    go_wp2_with fail
    go_loopw [5, 6] (fun rv kv wr' => ∃ k : Nat, k ≤ l ∧ kv = .int .i64 ((k : Int) - 1) ∧ rv = .int .u64 ((hiN q k % 10 : Nat) : Int) ∧ Cells wr' g 0 l (mixF (dgt q) (dgt (q / 10)) k) ∧ Free wr' g 0 l ∧ wr'.cell? ⟨w.heap.size, 0, none⟩ = some (.bool s) ∧ g < wr'.heap.size ∧ Below w.heap.size w wr')
     (fun _ kv _ => (intOf kv + 1).toNat)
    case atStart =>
     refine ⟨l, Nat.le_refl _, rfl, ?_, HCX.out.1.congr fun j hj => by simp [mixF, hj], HCX.out.2, hc0, hgl, hB⟩
     unfold hiN; rw [Nat.div_eq_of_lt HL.out.2]; rfl
    case round =>
     obtain ⟨k, hk, rfl, rfl, hcy, hfy, hc1, hgl1, hB3⟩ := hrel
     cases k with
     | zero =>
       have hq0 : hiN q 0 % 10 = q % 10 := by unfold hiN; rw [bp_zero, Nat.div_one]
       rw [hq0, show ((0 : Nat) : Int) - 1 = -1 from rfl]
       have hcy' : Cells wr g 0 l (dgt (q / 10)) := hcy.congr fun j _ => by simp [mixF]
       obtain ⟨d, hd⟩ : ∃ d, q % 10 = d := ⟨_, rfl⟩
       have hd9 : d ≤ 9 := by rw [← hd]; omega
       obtain ⟨cd, hcd⟩ : ∃ cd : UInt8, UInt8.ofNat (48 + d) = cd := ⟨_, rfl⟩
       have hcv := conv_one hd9 hcd (W := wr.alloc (Obj.cells #[.int .u8 (48 + (d : Int))] 5)) (B := wr.heap.size) (by simp [go_sem])
       have hal := below_alloc' wr (Obj.cells #[.int .u8 (48 + (d : Int))] 5)
       have hq10 : valF (dgt (q / 10)) l = q / 10 := by
        rw [valF_dgt, Nat.mod_eq_of_lt (Nat.lt_of_le_of_lt (Nat.div_le_self _ _) HL.out.2)]
       have hcall := rtrim_any (some ⟨g, 0, none⟩) l lc (dgt (q / 10)) (by omega) hlc (fun _ _ => dgt_lt _ _) (wr.alloc (Obj.cells #[.int .u8 (48 + (d : Int))] 5)) (.inr ⟨g, 0, rfl, hcy'.below hal (.inr hgl1)⟩)
       rw [hq10] at hcall
       have hlq : dlen (q / 10) ≤ l := by rw [← HL.out.1]; exact dlen_mono (Nat.div_le_self _ _)
       have HCALL := hide hcall
       have hdec2 := HDEC.out
       rw [hd, hcd] at hdec2
       have HD2 := hide hdec2
       have HY := hide (And.intro ((hcy'.below hal (.inr hgl1)).mono hlq) (And.intro (fun j hj => hfy.below hal hgl1 j (by omega) : Free _ g 0 (dlen (q / 10))) (And.intro ((hal.cell (p := ⟨w.heap.size, 0, none⟩) (lt_of_cell hc1)).trans hc1) (hB3.trans (hal.mono hB3.size)))))
       have hol : ¬ 9223372036854775807 < 1 + ol.length := by have := HLEN.out; omega
       have hw1 : IntKind.u64.wrap (48 + (d : Int)) = 48 + (d : Int) := by simp [IntKind.wrap, IntKind.bits, IntKind.signed]; omega
       have hw2 : IntKind.u8.wrap (48 + (d : Int)) = 48 + (d : Int) := by simp [IntKind.wrap, IntKind.bits, IntKind.signed]; omega
       rw [hd]
       clear hcall hdec2 hcy hcy' hfy hq10 hd hcd hal hq0 HDEC
       go_wp2_with fail
       refine HCALL.out.mono ?_
       rintro e w5 ⟨a', cap', rfl, ha', hcap', rfl⟩
       clear hcv hw1 hw2
       go_wp2_with fail
       rw [show (⟨#[cd]⟩ ++ ⟨ol.toArray⟩ : ByteArray) = ⟨([cd] ++ ol).toArray⟩ from app_bytes [cd] ol]
       go_roundw
       case rel => exact ⟨q / 10, [cd] ++ ol, a', cap', rfl, rfl, ha', hcap', by omega, HY.out.1, HY.out.2.1, HD2.out, HY.out.2.2.1, by rw [World.size_alloc]; omega, HY.out.2.2.2⟩
       case measure =>
        show Lib.nDigits V + 1 - (⟨([cd] ++ ol).toArray⟩ : ByteArray).size < Lib.nDigits V + 1 - (⟨ol.toArray⟩ : ByteArray).size
        rw [bytes_size, bytes_size, List.length_append, List.length_singleton]
        have := HLEN.out
        omega
     | succ m =>
       rw [show ((m + 1 : Nat) : Int) - 1 = (m : Int) by omega]
       obtain ⟨e1, e2, e3⟩ := shorten_step q m 10 (by decide)
       obtain ⟨r, hr⟩ : ∃ r, hiN q (m + 1) % 10 = r := ⟨_, rfl⟩
       have hr10 : r < 10 := by rw [← hr]; exact Nat.mod_lt _ (by decide)
       rw [hr] at e1 e2 e3 ⊢
       have hx1 : wr.cell? ⟨g, m, none⟩ = some (.int .u32 ((dgt q m : Nat) : Int)) := by
        have := hcy m (by omega)
        rw [Nat.zero_add, show mixF (dgt q) (dgt (q / 10)) (m + 1) m = dgt q m by simp [mixF]] at this; exact this
       have hz1 : wr.frozen? ⟨g, m, none⟩ = false := by have := hfy m (by omega); rw [Nat.zero_add] at this; exact this
       have hdm : dgt q m < 4294967296 := dgt_lt _ _
       have hml : (m : Int) < l := by omega
       have hs1 : (((r : Int) * 4294967296 + ((dgt q m : Nat) : Int)) / 10) = ((dgt (q / 10) m : Nat) : Int) := by rw [← e1]; omega
       have hs2 : (((r : Int) * 4294967296 + ((dgt q m : Nat) : Int)) % 10) = ((hiN q m % 10 : Nat) : Int) := by rw [← e2]; omega
       have hs3 : dgt (q / 10) m < 4294967296 := dgt_lt _ _
       have HS12 := hide (And.intro hs1 hs2)
       have HCY := hide (And.intro hcy hfy)
       clear hs1 hs2 hs3 e1 e2 e3 hr hcy hfy
       go_wp2_with fail
       rw [HS12.out.1, HS12.out.2]
       go_roundw
       case rel =>
        refine ⟨m, by omega, rfl, rfl, ?_, fun j hj => by rw [World.frozen?_setCell]; exact HCY.out.2 j hj, ?_, by rw [World.size_setCell]; exact hgl1, hB3.setCell (p := ⟨g, m, none⟩) (by show w.heap.size ≤ g; omega) _⟩
        · have := HCY.out.1.set (k := m) (dgt (q / 10) m) (by omega)
          rw [Nat.zero_add] at this
          refine this.congr fun j hj => ?_
          by_cases e : j = m
          · subst e; rw [putF_same]; simp [mixF]
          · rw [putF_ne _ _ e]
            by_cases e2 : j < m
            · simp [mixF, e2, show j < m + 1 by omega]
            · simp [mixF, e2, show ¬ j < m + 1 by omega]
        · rw [cell_setCell_ne _ _ _ _ (fun e => by have := congrArg Addr.block e; simp at this; omega) rfl rfl]; exact hc1
       case measure => simp [intOf]
  · subst hq
    rw [dlen_zero]
    have hol : ¬ 9223372036854775807 < 1 + ol.length := by
     have := congrArg List.length hdec
     rw [Lib.decDigits_length] at this
     have := nd_fit (u := V) (by rw [← HD0.out.1]; exact hn)
     omega
    have hsg := HS.out.1
    have HDEC := hide hdec
    clear hdec hla hlc hln hcx hfx
    cases s
    · have hz : ¬ z < 0 := by intro h; simp [h] at hsg
      have HT : Hid (txtZ z = ol) := by show _ = _; rw [txtZ_nonneg hz, HD0.out.2]; exact HDEC.out
      clear hsg
      go_wp2
      go_ret
      exact ⟨by rw [HT.out]; rfl, hB⟩
    · have hz : z < 0 := by simpa using hsg.symm
      have HT : Hid ((⟨#[45]⟩ ++ ⟨ol.toArray⟩ : ByteArray) = ⟨(txtZ z).toArray⟩) := by
       show _ = _
       rw [txtZ_neg hz, HD0.out.2, HDEC.out]
       exact app_bytes [45] ol
      clear hsg
      go_wp2
      go_ret
      exact ⟨by rw [← HT.out]; rfl, hB⟩
end Go.Proofs.YtgenaicmjddjcaaGreatDoor

/- Text of any Num, right or not: the program's and the reference's. -/
namespace Go.Proofs.YtgenaicmjddjcaaGreatDoor
open Go.RowKit Go.Shelf

def txtO : Option Int → List UInt8
 | some z => txtZ z
 | none => []
set_option maxRecDepth 100000 in
set_option maxHeartbeats 2000000 in
theorem text_no (s : Bool) (a : Option Addr) (n c : Nat) (w : World) (h : Arg w s a n none) :
 Calls Tryz.prog 12 #[.agg #[.bool s, .slice a n c]] w fun e w' => e = .returned (.string ⟨#[]⟩) ∧ Below w.heap.size w w' := by
 have HB := hide (below_alloc' w (Obj.cells #[.bool s, .slice a n c] 25))
 refine calls_marks Tryz.func12 rfl ?_
 simp only [Tryz.ntmps12, List.size_toArray, List.length_cons, List.length_nil, Nat.reduceAdd, Nat.reduceSub, Array.replicate_succ, Array.replicate_zero, List.push_toArray, List.append_toArray, List.nil_append, List.cons_append]
 go_wp2_with fail
 refine (right_arg s a n c none _ (h.below HB.out)).mono ?_
 rintro e w1 ⟨rfl, hb⟩
 have hB1 := HB.out.trans (hb.mono HB.out.size)
 go_wp2
 exact ⟨_, results_tmp rfl _ _ _, rfl, hB1⟩
set_option maxRecDepth 100000 in
set_option maxHeartbeats 2000000 in
theorem rtext_no (s : Bool) (a : Option Addr) (n c : Nat) (w : World) (h : Arg w s a n none) :
 Calls Tryz.prog 11 #[.agg #[.bool s, .slice a n c]] w fun e w' => e = .returned (.string ⟨#[]⟩) ∧ Below w.heap.size w w' := by
 have HB := hide (below_alloc' w (Obj.cells #[.bool s, .slice a n c] 25))
 go_enter Tryz.func11, Tryz.ntmps11
 go_wp2_with fail
 refine (rright_arg s a n c none _ (h.below HB.out)).mono ?_
 rintro e w1 ⟨rfl, hb⟩
 have hB1 := HB.out.trans (hb.mono HB.out.size)
 go_wp2
 go_ret
 exact ⟨rfl, hB1⟩
set_option maxRecDepth 100000 in
set_option maxHeartbeats 2000000 in
theorem rtext_zero (a : Option Addr) (c : Nat) (w : World) :
 Calls Tryz.prog 11 #[.agg #[.bool false, .slice a 0 c]] w fun e w' => e = .returned (.string ⟨#[48]⟩) ∧ Below w.heap.size w w' := by
 have HB := hide (below_alloc' w (Obj.cells #[.bool false, .slice a 0 c] 25))
 have hb0 := Box2.new w (.bool false) (.slice a 0 c) 25
 have HX := hide hb0
 clear hb0
 go_enter Tryz.func11, Tryz.ntmps11
 go_wp2_with fail
 refine (rright_arg false a 0 c (some 0) _ ⟨⟨rfl, ⟨dlen_zero.symm, .inl rfl⟩⟩, by omega⟩).mono ?_
 rintro e w1 ⟨rfl, hb⟩
 have hB1 := HB.out.trans (hb.mono HB.out.size)
 obtain ⟨x0, x1, -, -⟩ := HX.out.below hb HX.out.lt
 go_wp2
 go_ret
 exact ⟨rfl, hB1⟩
theorem rtext_arg (s : Bool) (a : Option Addr) (n c : Nat) (o : Option Int) (w : World) (h : Arg w s a n o) :
 Calls Tryz.prog 11 #[.agg #[.bool s, .slice a n c]] w fun e w' => e = .returned (.string ⟨(txtO o).toArray⟩) ∧ Below w.heap.size w w' := by
 cases o with
 | none => exact rtext_no s a n c w h
 | some z =>
   rcases Nat.eq_zero_or_pos n with rfl | hn
   · have hz : z = 0 := by
      have := dlen_eq_zero.1 h.1.dig.len.symm
      omega
     subst hz
     have hs : s = false := by rw [h.1.sign]; rfl
     subst hs
     show Calls _ _ _ _ fun e w' => e = .returned (.string ⟨(txtZ 0).toArray⟩) ∧ _
     rw [txtZ_zero]
     exact rtext_zero a c w
   · exact rtext_pos s a n c z hn h.2 w h.1
theorem text_arg (s : Bool) (a : Option Addr) (n c : Nat) (o : Option Int) (w : World) (ht : Pow10 w) (h : Arg w s a n o) :
 Calls Tryz.prog 12 #[.agg #[.bool s, .slice a n c]] w fun e w' => e = .returned (.string ⟨(txtO o).toArray⟩) ∧ Below w.heap.size w w' := by
 cases o with
 | none => exact text_no s a n c w h
 | some z => exact text_num s a n c z h.2 w ht h.1
end Go.Proofs.YtgenaicmjddjcaaGreatDoor

