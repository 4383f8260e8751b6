/- Several texts in one. -/
import Derived.Test.YtgenaicmjddjcaaGreatDoorPTxA
import Derived.Shelf.Pu.ErrVarParseUint
import Derived.Test.YtgenaicmjddjcaaGreatDoorPAd
import Derived.Test.YtgenaicmjddjcaaGreatDoorPRf
import Derived.Laws.OwnMore
import Derived.Laws.IdiomStrings
/- num's parseDecimals of bytes of which one is no decimal digit. -/
namespace Go.Proofs.YtgenaicmjddjcaaGreatDoor
open Go.RowKit Go.Shelf

def Syn (w : World) : Prop := ∃ tp p, w.var? Tryz.prog "strconv.ErrSyntax" = some #[.iface tp p]
theorem gSyn : Tryz.prog.globalNamed "strconv.ErrSyntax" = some 2 := by kernel_rfl
theorem Syn.below {w w' : World} (h : Syn w) (t : Below w.heap.size w w') : Syn w' := by
 obtain ⟨tp, p, h⟩ := h
 refine ⟨tp, p, ?_⟩
 unfold World.var? at h ⊢
 rw [gSyn] at h ⊢
 have hlt : 2 < w.heap.size := by
  rcases Nat.lt_or_ge 2 w.heap.size with h' | h'
  · exact h'
  · rw [Option.bind_some, Array.getElem?_eq_none h'] at h
    cases h
 have e := t.block 2 hlt
 rw [Option.bind_some] at h ⊢
 rw [e]
 exact h
theorem parse_syn {l : List UInt8} (h0 : l ≠ []) (h9 : l.length ≤ 9) (hd : ¬ ∀ c ∈ l, isD c) : Lib.parseUintB 32 l = Lib.parseUintB 32 [] := by
 have main : ∀ (l : List UInt8) (a k : Nat), l.length ≤ k → k ≤ 9 → a * 10 ^ k + 10 ^ k ≤ 10 ^ 9 → (¬ ∀ c ∈ l, isD c) → Lib.parseUintM 4294967295 a l = Lib.parseUintB 32 [] := by
  intro l
  induction l with
  | nil => intro a k _ _ _ hd; exact absurd (fun _ h => by cases h) hd
  | cons c r ih =>
    intro a k hk hk9 ha hd
    obtain ⟨k, rfl⟩ : ∃ j, k = j + 1 := ⟨k - 1, by simp at hk; omega⟩
    by_cases hc : isD c
    · have hp : 0 < 10 ^ k := Nat.pow_pos (by decide)
      have hr : ¬ ∀ c ∈ r, isD c := fun h => hd fun x hx => by
       rcases List.mem_cons.1 hx with rfl | hx
       · exact hc
       · exact h x hx
      rw [Nat.pow_succ] at ha
      have h1 : (a * 10 + 9) * 10 ^ k + 10 ^ k ≤ 10 ^ 9 := by
       rw [Nat.add_mul, Nat.mul_assoc, Nat.mul_comm 10 (10 ^ k)]; omega
      have h2 : a * 10 + 9 < 10 ^ 9 := by
       have : (a * 10 + 9) * 1 ≤ (a * 10 + 9) * 10 ^ k := Nat.mul_le_mul_left _ hp
       omega
      unfold isD at hc
      have h3 : (a * 10 + (c.toNat - 48)) * 10 ^ k ≤ (a * 10 + 9) * 10 ^ k := Nat.mul_le_mul_right _ (by omega)
      rw [Lib.parseUintM, if_pos hc, if_neg (by omega), if_neg (by omega), ih _ k (by simp at hk; omega) (by omega) (by omega) hr]
    · unfold isD at hc
      rw [Lib.parseUintM, if_neg hc]; rfl
 unfold Lib.parseUintB
 rw [if_neg h0]
 exact main l 0 9 h9 (Nat.le_refl _) (by decide) hd

set_option maxRecDepth 100000 in
set_option maxHeartbeats 4000000 in
theorem pdec_bad (l : List UInt8) (h640 : l.length ≤ 640) (hd : ∃ c ∈ l, ¬ isD c) (w : World) (hsy : Syn w) :
 Calls Tryz.prog 72 #[.string ⟨l.toArray⟩] w fun e w' => e = .returned (.tuple #[.slice none 0 0, .bool false]) ∧ Below w.heap.size w w' := by
 have HD := hide hd
 clear hd
 go_enter Tryz.func72, Tryz.ntmps72
 go_wp2_with fail
 go_loopw [0, 4] (fun p gv wr => ∃ (pre rest : List UInt8) (a : Option Addr) (n c : Nat), l = pre ++ rest ∧ (∀ c ∈ pre, isD c) ∧ p = .string ⟨rest.toArray⟩ ∧ gv = .slice a n c ∧ IsD wr a n (dv pre) ∧ n ≤ c ∧ (n = 0 ∨ Fresh w a) ∧ (pre = [] ∨ rest.length % 9 = 0) ∧ Below w.heap.size w wr)
  (fun p _ _ => strLen p)
 case atStart => exact ⟨[], l, none, 0, 0, rfl, (fun _ h => by cases h), rfl, rfl, ⟨by unfold dv; rw [dvA_nil, dlen_zero], .inl rfl⟩, Nat.le_refl _, .inl rfl, .inl rfl, Below.refl _ _⟩
 case round =>
  obtain ⟨pre, rest, a, n, c, hl, hpre, rfl, rfl, hI, hnc, hf, h9, hB⟩ := hrel
  have hs : (⟨rest.toArray⟩ : ByteArray).size = rest.length := bytes_size rest
  by_cases hr : rest = []
  · exfalso
    subst hr
    obtain ⟨c, hc, hn⟩ := HD.out
    rw [hl, List.append_nil] at hc
    exact hn (hpre c hc)
  · have hpos : 0 < rest.length := List.length_pos_iff.2 hr
    have hlen : rest.length ≤ 640 := by have := congrArg List.length hl; rw [List.length_append] at this; omega
    have hpos' : (0 : Int) < rest.length := by omega
    go_wp2_with fail
    obtain ⟨m, hm⟩ : ∃ m, (rest.length - 1) % 9 + 1 = m := ⟨_, rfl⟩
    have hmi : ((rest.length : Int) - 1) % 9 + 1 = (m : Int) := by omega
    have hm1 : 1 ≤ m ∧ m ≤ 9 ∧ m ≤ rest.length := by omega
    obtain ⟨q, hq⟩ : ∃ q, rest.take m = q := ⟨_, rfl⟩
    obtain ⟨r', hr'⟩ : ∃ r', rest.drop m = r' := ⟨_, rfl⟩
    have hqr : rest = q ++ r' := by rw [← hq, ← hr', List.take_append_drop]
    have hql : q.length = m := by rw [← hq, List.length_take]; omega
    have hrl : r'.length = rest.length - m := by rw [← hr', List.length_drop]
    have hx1 : (⟨rest.toArray⟩ : ByteArray).extract 0 m = ⟨q.toArray⟩ := by rw [bytes_extract]; simp [← hq]
    have hq0 : q ≠ [] := fun e => by rw [e] at hql; simp at hql; omega
    rw [hm, hx1, hmi]
    by_cases hqd : ∀ c ∈ q, isD c
    case neg =>
     obtain ⟨tp, p, hv⟩ := hsy.below hB
     have hsyn := parse_syn hq0 (by omega) hqd
     refine (Any.strconv_ParseUint_10_at32_syntax_var Tryz.laysPu14 ⟨q.toArray⟩ (by rw [bytes_size]; omega) hsyn tp p wr hv).mono ?_
     rintro e w1 ⟨N, rfl, -, -, hb1⟩
     have hB1 := hB.trans (hb1.mono hB.size)
     clear hx1 hq hr' h9 hl hqd hI hmi hrl hv hsyn
     go_wp2
     go_ret2
     exact ⟨rfl, hB1⟩
    have hpart := parse_nine hq0 (by omega) hqd
    have hqv := dv_lt q hqd
    have hx2 : (⟨rest.toArray⟩ : ByteArray).extract m rest.length = ⟨r'.toArray⟩ := by rw [bytes_extract, ← hr', List.take_of_length_le (by simp)]
    have hq10 : dv q < 1000000000 := lt_nine (by rw [← hql]; exact hqv) hm1.2.1
    have hval : dv pre * 1000000000 + dv q = dv (pre ++ q) := by
     rw [dv_append]
     rcases h9 with h | h
     · have h0 : dv pre = 0 := by rw [h]; exact dvA_nil 0
       rw [h0, Nat.zero_mul, Nat.zero_mul]
     · rw [hql, show m = 9 by omega]
    have hrm : r'.length % 9 = 0 := by omega
    have hl2 : l = (pre ++ q) ++ r' := by rw [hl, hqr, List.append_assoc]
    have hmr : (m : Int) ≤ rest.length := by omega
    refine (Tryz.strconv_ParseUint_10_at32_ok ⟨q.toArray⟩ (by rw [bytes_size]; omega) (dv q) hpart wr).mono ?_
    rintro e w1 ⟨rfl, hw1⟩
    have hB1' : Below wr.heap.size wr w1 := by
     rcases hw1 with rfl | rfl
     · exact Below.refl _ _
     · exact below_bytes _ _ _
    have hB1 := hB.trans (hB1'.mono hB.size)
    have hI1 := hI.below hB1'
    have hn640 : n ≤ 640 := by
     rw [hI.len]
     exact dlen_dv hpre (by have := congrArg List.length hl; rw [List.length_append] at this; omega)
    have hpq : ∀ c ∈ pre ++ q, isD c := fun c hc => (List.mem_append.1 hc).elim (hpre c) (hqd c)
    have HV := hide (And.intro hval (And.intro hrm hl2))
    have HPQ := hide hpq
    have HX := hide hx2
    have HM := hide hmi
    have HR := hide (And.intro hrl hm1)
    clear hpq hpre hw1 hval hrm hl2 hqr hpart hqv hx1 hq hr' h9 hl hqd hx2 hI hB1' hmi hrl
    go_wp2_with fail
    have hBa : Below w1.heap.size w1 (w1.alloc (Obj.cells #[.int .u32 1000000000] 68)) := (Below.refl _ w1).alloc (Nat.le_refl _) _
    have hOne : IsD (w1.alloc (Obj.cells #[.int .u32 1000000000] 68)) (some ⟨w1.heap.size, 0, none⟩) 1 1000000000 :=
     ⟨(dlen_one (by decide) (by decide)).symm, .inr ⟨_, _, rfl, fun j hj => by match j, hj with | 0, _ => simp [go_sem, dgt, bp_zero]⟩⟩
    refine (times_any a (some ⟨w1.heap.size, 0, none⟩) (dv pre) 1000000000 n 1 c 1 (by omega) (by decide) _ (hI1.below hBa) hOne).mono ?_
    rintro e w2 ⟨a2, n2, c2, rfl, hd2, hc2, hf2, hb2⟩
    have hB2 := hB1.trans ((hBa.trans (hb2.mono hBa.size)).mono hB1.size)
    have hn2 : n2 ≤ 641 := by
     rw [hd2.len]
     exact dlen_nine (by rw [← hI1.len]; exact hn640)
    go_wp2_with fail
    refine (split_any (dv q) (by omega) w2).mono ?_
    rintro e w3 ⟨a3, n3, c3, rfl, hd3, hc3, hf3, hb3⟩
    have hn3 : n3 ≤ 64 := by rw [hd3.len]; exact Nat.le_trans ((dlen_le_iff (k := 1)).2 (by rw [bp_one]; omega)) (by decide)
    have hB3 := hB2.trans (hb3.mono hB2.size)
    go_wp2_with fail
    refine (plus_any a2 a3 (dv pre * 1000000000) (dv q) n2 n3 c2 c3 (by omega) (by omega) w3 (hd2.below hb3) hd3).mono ?_
    rintro e w4 ⟨a4, n4, c4, rfl, hd4, hc4, hf4, hb4⟩
    have hB4 := hB3.trans (hb4.mono hB3.size)
    rw [HV.out.1] at hd4
    go_wp2_with fail
    rw [HX.out]
    go_roundw
    case rel => exact ⟨pre ++ q, r', a4, n4, c4, HV.out.2.2, HPQ.out, rfl, rfl, hd4, hc4, hf4.imp id fun h ad e => Nat.le_trans hB3.size (h ad e), .inr HV.out.2.1, hB4⟩
    case measure =>
     show (⟨r'.toArray⟩ : ByteArray).size < (⟨rest.toArray⟩ : ByteArray).size
     rw [bytes_size, bytes_size]
     have := HR.out
     omega
end Go.Proofs.YtgenaicmjddjcaaGreatDoor

/- num's Parse of whatever string. -/
namespace Go.Proofs.YtgenaicmjddjcaaGreatDoor
open Go.RowKit Go.Shelf

theorem number_opt (neg : Bool) (a : Option Addr) (n cap v : Nat) (hcap : n ≤ cap) (hn : n ≤ 1099511627776) (w : World) (hd : IsD w a n v) {O : Option Int} (HO : Hid (fitO (signed neg v) = O)) :
 Calls Tryz.prog 73 #[.bool neg, .slice a n cap] w fun e w' => ∃ (s : Bool) (a' : Option Addr) (n' cap' : Nat), e = .returned (.tuple #[.agg #[.bool s, .slice a' n' cap'], .bool O.isSome]) ∧
  IsN w' s a' n' (O.getD 0) ∧ (n' = 0 ∨ a' = a ∧ n' = n) ∧ n' ≤ 64 ∧ Below w.heap.size w w' := by
 by_cases h : n ≤ 64
 · have hf : fitO (signed neg v) = some (signed neg v) := fitO_some (by rw [signed_abs, ← hd.len]; exact h)
   rw [← HO.out, hf]
   refine (number_of neg a n cap v hcap h w hd).mono ?_
   rintro e w' ⟨s, a', n', c', rfl, hN, ha, hb⟩
   have hnn : n' = n := by rw [hN.dig.len, hd.len, signed_abs]
   exact ⟨s, a', n', c', rfl, hN, ha.imp id fun e => ⟨e, hnn⟩, by omega, hb⟩
 · have hf : fitO (signed neg v) = none := fitO_none (by rw [signed_abs, ← hd.len]; exact h)
   rw [← HO.out, hf]
   refine (number_over neg a n cap v hcap (by omega) hn w hd).mono ?_
   rintro e w' ⟨rfl, hb⟩
   exact ⟨false, none, 0, 0, rfl, zero_num _, .inl rfl, by omega, hb⟩

set_option maxRecDepth 100000 in
set_option maxHeartbeats 2000000 in
theorem parse_len0 (S D : ByteArray) (neg : Bool) (hD : D.size = 0) (w : World) (HCUT : Hid (∀ W, Calls Tryz.prog 71 #[.string S, .string ⟨#[45]⟩] W fun e w' => e = .returned (.tuple #[.string D, .bool neg]) ∧ w' = W)) :
 Calls Tryz.prog 13 #[.string S] w (NoPost w) := by
 go_enter Tryz.func13, Tryz.ntmps13
 go_wp2_with fail
 have bC : Box2 (w.alloc (Obj.cells #[.bool false, .slice none 0 0] 25)) w.heap.size (.bool false) (.slice none 0 0) := Box2.new _ _ _ _
 have hB0 : Below w.heap.size w (w.alloc (Obj.cells #[.bool false, .slice none 0 0] 25)) := (Below.refl _ w).alloc (Nat.le_refl _) _
 obtain ⟨W0, hW0⟩ : ∃ W0, w.alloc (Obj.cells #[.bool false, .slice none 0 0] 25) = W0 := ⟨_, rfl⟩
 rw [hW0] at bC hB0 ⊢
 clear hW0
 refine (HCUT.out W0).mono ?_
 rintro e w' ⟨rfl, rfl⟩
 have K := hide (no_store bC (by omega) hB0)
 obtain ⟨r0, r1, z0, z1⟩ := bC
 go_wp2
 obtain ⟨⟨q0, q1, -, -⟩, hBB⟩ := K.out
 exact bodyPost_ret (v := .tuple #[.agg #[.bool false, .slice none 0 0], .bool false]) (by simp [results, Tryz.results13, go_sem, q0, q1]) rfl ⟨rfl, hBB⟩

set_option maxRecDepth 100000 in
set_option maxHeartbeats 2000000 in
theorem parse_long (S D : ByteArray) (neg : Bool) (hD : 640 < D.size) (w : World) (HCUT : Hid (∀ W, Calls Tryz.prog 71 #[.string S, .string ⟨#[45]⟩] W fun e w' => e = .returned (.tuple #[.string D, .bool neg]) ∧ w' = W)) :
 Calls Tryz.prog 13 #[.string S] w (NoPost w) := by
 have h0 : ((D.size : Int) == 0) = false := beq_eq_false_iff_ne.2 (by omega)
 have h1 : (640 : Int) < (D.size : Int) := by omega
 go_enter Tryz.func13, Tryz.ntmps13
 go_wp2_with fail
 have bC : Box2 (w.alloc (Obj.cells #[.bool false, .slice none 0 0] 25)) w.heap.size (.bool false) (.slice none 0 0) := Box2.new _ _ _ _
 have hB0 : Below w.heap.size w (w.alloc (Obj.cells #[.bool false, .slice none 0 0] 25)) := (Below.refl _ w).alloc (Nat.le_refl _) _
 obtain ⟨W0, hW0⟩ : ∃ W0, w.alloc (Obj.cells #[.bool false, .slice none 0 0] 25) = W0 := ⟨_, rfl⟩
 rw [hW0] at bC hB0 ⊢
 clear hW0
 refine (HCUT.out W0).mono ?_
 rintro e w' ⟨rfl, rfl⟩
 have K := hide (no_store bC (by omega) hB0)
 obtain ⟨r0, r1, z0, z1⟩ := bC
 go_wp2
 obtain ⟨⟨q0, q1, -, -⟩, hBB⟩ := K.out
 exact bodyPost_ret (v := .tuple #[.agg #[.bool false, .slice none 0 0], .bool false]) (by simp [results, Tryz.results13, go_sem, q0, q1]) rfl ⟨rfl, hBB⟩

set_option maxRecDepth 100000 in
set_option maxHeartbeats 2000000 in
theorem parse_zeros (S : ByteArray) (c : UInt8) (r : List UInt8) (neg : Bool) (hr : r.length + 1 ≤ 640) (hc : c.toNat = 48) (hS : (S.toList == [48]) = false) (w : World) (HCUT : Hid (∀ W, Calls Tryz.prog 71 #[.string S, .string ⟨#[45]⟩] W fun e w' => e = .returned (.tuple #[.string ⟨(c :: r).toArray⟩, .bool neg]) ∧ w' = W)) :
 Calls Tryz.prog 13 #[.string S] w (NoPost w) := by
 have hsz : (⟨(c :: r).toArray⟩ : ByteArray).size = r.length + 1 := by rw [bytes_size]; rfl
 have hl0 : ((r.length : Int) + 1 == 0) = false := by simp; omega
 have hl1 : ¬ (640 : Int) < (r.length : Int) + 1 := by omega
 have hc48 : ((((⟨(c :: r).toArray⟩ : ByteArray)[0]'(by rw [hsz]; omega)).toNat : Int) == 48) = true := by
  show ((c.toNat : Int) == 48) = true
  simp; omega
 go_enter Tryz.func13, Tryz.ntmps13
 go_wp2_with fail
 have bC : Box2 (w.alloc (Obj.cells #[.bool false, .slice none 0 0] 25)) w.heap.size (.bool false) (.slice none 0 0) := Box2.new _ _ _ _
 have hB0 : Below w.heap.size w (w.alloc (Obj.cells #[.bool false, .slice none 0 0] 25)) := (Below.refl _ w).alloc (Nat.le_refl _) _
 obtain ⟨W0, hW0⟩ : ∃ W0, w.alloc (Obj.cells #[.bool false, .slice none 0 0] 25) = W0 := ⟨_, rfl⟩
 rw [hW0] at bC hB0 ⊢
 clear hW0
 refine (HCUT.out W0).mono ?_
 rintro e w' ⟨rfl, rfl⟩
 have K := hide (no_store bC (by omega) hB0)
 obtain ⟨r0, r1, z0, z1⟩ := bC
 go_wp2
 obtain ⟨⟨q0, q1, -, -⟩, hBB⟩ := K.out
 exact bodyPost_ret (v := .tuple #[.agg #[.bool false, .slice none 0 0], .bool false]) (by simp [results, Tryz.results13, go_sem, q0, q1]) rfl ⟨rfl, hBB⟩

set_option maxRecDepth 100000 in
set_option maxHeartbeats 2000000 in
theorem parse_bad (S : ByteArray) (c : UInt8) (r : List UInt8) (neg : Bool) (hr : r.length + 1 ≤ 640) (hc : c.toNat ≠ 48) (hb : ∃ x ∈ c :: r, ¬ isD x) (w : World) (hsy : Syn w) (HCUT : Hid (∀ W, Calls Tryz.prog 71 #[.string S, .string ⟨#[45]⟩] W fun e w' => e = .returned (.tuple #[.string ⟨(c :: r).toArray⟩, .bool neg]) ∧ w' = W)) :
 Calls Tryz.prog 13 #[.string S] w (NoPost w) := by
 have hsz : (⟨(c :: r).toArray⟩ : ByteArray).size = r.length + 1 := by rw [bytes_size]; rfl
 have hl0 : ((r.length : Int) + 1 == 0) = false := by simp; omega
 have hl1 : ¬ (640 : Int) < (r.length : Int) + 1 := by omega
 have hc48 : ((((⟨(c :: r).toArray⟩ : ByteArray)[0]'(by rw [hsz]; omega)).toNat : Int) == 48) = false := by
  show ((c.toNat : Int) == 48) = false
  simp; omega
 have HP := hide fun W (h : Syn W) => pdec_bad (c :: r) (by simpa using hr) hb W h
 go_enter Tryz.func13, Tryz.ntmps13
 go_wp2_with fail
 have bC : Box2 (w.alloc (Obj.cells #[.bool false, .slice none 0 0] 25)) w.heap.size (.bool false) (.slice none 0 0) := Box2.new _ _ _ _
 have hB0 : Below w.heap.size w (w.alloc (Obj.cells #[.bool false, .slice none 0 0] 25)) := (Below.refl _ w).alloc (Nat.le_refl _) _
 obtain ⟨W0, hW0⟩ : ∃ W0, w.alloc (Obj.cells #[.bool false, .slice none 0 0] 25) = W0 := ⟨_, rfl⟩
 rw [hW0] at bC hB0 ⊢
 clear hW0
 refine (HCUT.out W0).mono ?_
 rintro e w' ⟨rfl, rfl⟩
 go_wp2_with fail
 refine (HP.out w' (hsy.below hB0)).mono ?_
 rintro e w1 ⟨rfl, hb1⟩
 have hB0 := hB0.trans (hb1.mono hB0.size)
 have bC := bC.below hb1 bC.lt
 have K := hide (no_store bC (by omega) hB0)
 obtain ⟨r0, r1, z0, z1⟩ := bC
 go_wp2
 obtain ⟨⟨q0, q1, -, -⟩, hBB⟩ := K.out
 exact bodyPost_ret (v := .tuple #[.agg #[.bool false, .slice none 0 0], .bool false]) (by simp [results, Tryz.results13, go_sem, q0, q1]) rfl ⟨rfl, hBB⟩

set_option maxRecDepth 100000 in
set_option maxHeartbeats 2000000 in
theorem parse_good (S : ByteArray) (c : UInt8) (r : List UInt8) (neg : Bool) (hr : r.length + 1 ≤ 640) (hc : c.toNat ≠ 48) (hb : ∀ x ∈ c :: r, isD x) {O : Option Int} (HO : Hid (fitO (signed neg (dv (c :: r))) = O)) (w : World) (HCUT : Hid (∀ W, Calls Tryz.prog 71 #[.string S, .string ⟨#[45]⟩] W fun e w' => e = .returned (.tuple #[.string ⟨(c :: r).toArray⟩, .bool neg]) ∧ w' = W)) :
 Calls Tryz.prog 13 #[.string S] w (OptPost w O) := by
 have hsz : (⟨(c :: r).toArray⟩ : ByteArray).size = r.length + 1 := by rw [bytes_size]; rfl
 have hl0 : ((r.length : Int) + 1 == 0) = false := by simp; omega
 have hl1 : ¬ (640 : Int) < (r.length : Int) + 1 := by omega
 have hc48 : ((((⟨(c :: r).toArray⟩ : ByteArray)[0]'(by rw [hsz]; omega)).toNat : Int) == 48) = false := by
  show ((c.toNat : Int) == 48) = false
  simp; omega
 have hpd := fun W => pdec_ok (c :: r) (by simpa using hr) hb W
 have HLN : Hid (dlen (dv (c :: r)) ≤ 1099511627776) := Nat.le_trans (dlen_dv hb (k := 640) (by simpa using hr)) (by decide)
 obtain ⟨V, hV⟩ : ∃ V, dv (c :: r) = V := ⟨_, rfl⟩
 rw [hV] at hpd HO HLN
 have HP := hide hpd
 clear hpd hV
 go_enter Tryz.func13, Tryz.ntmps13
 go_wp2_with fail
 have bC : Box2 (w.alloc (Obj.cells #[.bool false, .slice none 0 0] 25)) w.heap.size (.bool false) (.slice none 0 0) := Box2.new _ _ _ _
 have hB0 : Below w.heap.size w (w.alloc (Obj.cells #[.bool false, .slice none 0 0] 25)) := (Below.refl _ w).alloc (Nat.le_refl _) _
 obtain ⟨W0, hW0⟩ : ∃ W0, w.alloc (Obj.cells #[.bool false, .slice none 0 0] 25) = W0 := ⟨_, rfl⟩
 rw [hW0] at bC hB0 ⊢
 clear hW0
 refine (HCUT.out W0).mono ?_
 rintro e w' ⟨rfl, rfl⟩
 go_wp2_with fail
 refine (HP.out w').mono ?_
 rintro e w1 ⟨a1, n1, c1, rfl, hd1, hc1, hf1, hb1⟩
 have hB1 := hB0.trans (hb1.mono hB0.size)
 have bC1 := bC.below hb1 bC.lt
 have hn1 : n1 ≤ 1099511627776 := by rw [hd1.len]; exact HLN.out
 go_wp2_with fail
 refine (number_opt neg a1 n1 c1 V hc1 hn1 w1 hd1 HO).mono ?_
 rintro e w2 ⟨s2, a2, n2, c2, rfl, hn2, ha2, h64, hb2⟩
 have hB2 := hB1.trans (hb2.mono hB1.size)
 have bC2 := bC1.below hb2 bC1.lt
 have hlt := bC.lt
 have hfq : n2 = 0 ∨ ∀ ad, a2 = some ad → w'.heap.size ≤ ad.block := by
  rcases ha2 with h | ⟨h, hn⟩
  · exact .inl h
  · rcases hf1 with h' | h'
    · exact .inl (hn.trans h')
    · exact .inr fun ad e => h' ad (h ▸ e)
 obtain ⟨hbx, hN, hBB⟩ := num_store (cap := c2) bC2 (Nat.le_refl _) hB2 hn2 (hfq.imp id fun h ad e => by have := h ad e; omega)
 have hN' := hide hN
 clear hN
 obtain ⟨q0, q1, -, -⟩ := hbx
 obtain ⟨r0, r1, z0, z1⟩ := bC2
 go_wp2
 exact bodyPost_ret (v := .tuple #[.agg #[.bool s2, .slice a2 n2 c2], .bool O.isSome]) (by simp [results, Tryz.results13, go_sem, q0, q1]) rfl ⟨_, _, _, _, rfl, hN'.out, h64, hfq.imp id fun h ad e => Nat.le_trans hB0.size (h ad e), hBB⟩

def headP (l : List UInt8) : List UInt8 := Lib.trimPrefix l [45]
def negP (l : List UInt8) : Bool := Lib.hasPrefix l [45]
def okP (l : List UInt8) : Bool := (match headP l with | [] => false | c :: _ => (headP l).length ≤ 640 && (c.toNat != 48 || l == [48])) && (headP l).all fun c => decide (isD c)
def parseO (l : List UInt8) : Option Int := if okP l = true then fitO (signed (negP l) (dv (headP l))) else none
theorem parse_any (l : List UInt8) (w : World) (hsy : Syn w) :
 Calls Tryz.prog 13 #[.string ⟨l.toArray⟩] w (OptPost w (parseO l)) := by
 have HCUT : Hid (∀ W, Calls Tryz.prog 71 #[.string ⟨l.toArray⟩, .string ⟨#[45]⟩] W fun e w' => e = .returned (.tuple #[.string ⟨(headP l).toArray⟩, .bool (negP l)]) ∧ w' = W) := fun W => Tryz.strings_CutPrefix ⟨l.toArray⟩ ⟨#[45]⟩ W
 obtain ⟨ds, hds⟩ : ∃ ds, headP l = ds := ⟨_, rfl⟩
 rw [hds] at HCUT
 cases ds with
 | nil =>
   have ho : parseO l = none := by unfold parseO okP; rw [hds]; simp
   exact (parse_len0 ⟨l.toArray⟩ ⟨[].toArray⟩ (negP l) rfl w HCUT).mono fun e w' h => h.opt ho
 | cons c r =>
   by_cases hlong : r.length + 1 ≤ 640
   · by_cases hz : c.toNat = 48
     · by_cases hl : l = [48]
       · subst hl
         have ho : parseO [48] = some 0 := by
          have h1 : headP [48] = [48] := by decide
          have h2 : okP [48] = true := by decide
          have h3 : negP [48] = false := by decide
          unfold parseO
          rw [if_pos h2, h1, h3, dv_one]
          exact fitO_some (by show dlen 0 ≤ 64; rw [dlen_zero]; decide)
         rw [ho]
         exact (parse_zero w).mono fun e w' h => h.opt (by show dlen 0 ≤ 64; rw [dlen_zero]; decide)
       · have ho : parseO l = none := by
          unfold parseO okP; rw [hds]; simp [hz, hl]
         have hS : ((⟨l.toArray⟩ : ByteArray).toList == [48]) = false := by rw [bytes_toList]; exact beq_eq_false_iff_ne.2 hl
         exact (parse_zeros ⟨l.toArray⟩ c r (negP l) hlong hz hS w HCUT).mono fun e w' h => h.opt ho
     · by_cases hall : ∀ x ∈ c :: r, isD x
       · have ho : okP l = true := by
          unfold okP; rw [hds]
          have : (c :: r).all (fun c => decide (isD c)) = true := List.all_eq_true.2 fun x hx => decide_eq_true (hall x hx)
          simp [hz, this]; omega
         have hp : parseO l = fitO (signed (negP l) (dv (c :: r))) := by unfold parseO; rw [if_pos ho, hds]
         rw [hp]
         exact parse_good ⟨l.toArray⟩ c r (negP l) hlong hz hall (hide rfl) w HCUT
       · have ho : parseO l = none := by
          unfold parseO okP; rw [hds]
          have : (c :: r).all (fun c => decide (isD c)) = false := by
           rw [List.all_eq_false]
           apply Classical.byContradiction
           intro hn
           exact hall fun x hx => Classical.byContradiction fun h => hn ⟨x, hx, by simpa using h⟩
          rw [this]; simp
         have hb : ∃ x ∈ c :: r, ¬ isD x := Classical.byContradiction fun hn => hall fun x hx => Classical.byContradiction fun h => hn ⟨x, hx, h⟩
         exact (parse_bad ⟨l.toArray⟩ c r (negP l) hlong hz hb w hsy HCUT).mono fun e w' h => h.opt ho
   · have ho : parseO l = none := by
      unfold parseO okP; rw [hds]; simp; omega
     exact (parse_long ⟨l.toArray⟩ ⟨(c :: r).toArray⟩ (negP l) (by rw [bytes_size]; simp; omega) w HCUT).mono fun e w' h => h.opt ho
end Go.Proofs.YtgenaicmjddjcaaGreatDoor

/- The reference's Text of a right Num other than 0. -/
namespace Go.Proofs.YtgenaicmjddjcaaGreatDoor
open Go.RowKit Go.Shelf

end Go.Proofs.YtgenaicmjddjcaaGreatDoor

/- Text of any Num, right or not: the program's and the reference's. -/
namespace Go.Proofs.YtgenaicmjddjcaaGreatDoor
open Go.RowKit Go.Shelf

end Go.Proofs.YtgenaicmjddjcaaGreatDoor

