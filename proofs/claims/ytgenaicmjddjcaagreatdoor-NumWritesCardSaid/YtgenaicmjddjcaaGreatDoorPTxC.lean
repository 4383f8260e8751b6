/- Several texts in one. -/
import Derived.Test.YtgenaicmjddjcaaGreatDoorPTxB
import Derived.Test.YtgenaicmjddjcaaGreatDoorPRg
import Derived.Test.YtgenaicmjddjcaaGreatDoorPRef
import Derived.Test.YtgenaicmjddjcaaGreatDoorPRf
/- What Parse finds is what the reference's Parse finds: the number of the digits, if its text is the string. -/
namespace Go.Proofs.YtgenaicmjddjcaaGreatDoor
open Go.RowKit Go.Shelf

theorem dec_dv : ∀ (n : Nat) (l : List UInt8), l.length = n + 1 → (∀ c ∈ l, isD c) → (∀ c r, l = c :: r → c.toNat ≠ 48) → Lib.decDigits (dv l) = l ∧ dv l ≠ 0
 | 0, l, h, hd, hc => by
   match l, h with
   | [c], _ => ?_
   have h1 := hd c (by simp)
   have h2 := hc c [] rfl
   unfold isD at h1
   rw [dv_one]
   refine ⟨?_, by omega⟩
   rw [dec_small (by omega), show 48 + (c.toNat - 48) = c.toNat by omega]
   simp
 | n + 1, l, h, hd, hc => by
   obtain ⟨p, x, rfl⟩ : ∃ p x, l = p ++ [x] := by
    rcases List.eq_nil_or_concat l with e | ⟨p, x, e⟩
    · rw [e] at h; simp at h
    · exact ⟨p, x, by rw [e, List.concat_eq_append]⟩
   have hp : p.length = n + 1 := by simpa using h
   have hdp : ∀ c ∈ p, isD c := fun c hc => hd c (by simp [hc])
   have hx := hd x (by simp)
   have hcp : ∀ c r, p = c :: r → c.toNat ≠ 48 := fun c r e => hc c (r ++ [x]) (by rw [e]; rfl)
   obtain ⟨h1, h2⟩ := dec_dv n p hp hdp hcp
   unfold isD at hx
   have hv : dv (p ++ [x]) = dv p * 10 + (x.toNat - 48) := by rw [dv_append, dv_one, List.length_singleton, Nat.pow_one]
   rw [hv]
   refine ⟨?_, by omega⟩
   rw [dec_big (by omega), show (dv p * 10 + (x.toNat - 48)) / 10 = dv p by omega, show (dv p * 10 + (x.toNat - 48)) % 10 = x.toNat - 48 by omega, h1, show 48 + (x.toNat - 48) = x.toNat by omega]
   simp
def parseR (l : List UInt8) : Option Int := if (∀ c ∈ headP l, isD c) ∧ dlen (dv (headP l)) ≤ 64 ∧ txtZ (signed (negP l) (dv (headP l))) = l then some (signed (negP l) (dv (headP l))) else none
theorem head_neg (l : List UInt8) : (negP l = true ∧ l = 45 :: headP l) ∨ (negP l = false ∧ headP l = l ∧ ∀ r, l ≠ 45 :: r) := by
 unfold negP headP Lib.trimPrefix Lib.hasPrefix
 match l with
 | [] => exact .inr ⟨rfl, rfl, fun r e => by cases e⟩
 | c :: r =>
   by_cases h : (45 : UInt8) = c
   · subst h
     exact .inl ⟨by simp, by simp⟩
   · have hp : List.isPrefixOf [(45 : UInt8)] (c :: r) = false := by
      show ((45 == c) && List.isPrefixOf [] r) = false
      rw [beq_eq_false_iff_ne.2 h]; rfl
     rw [hp]
     exact .inr ⟨rfl, rfl, fun r' e => h (by cases e; rfl)⟩
theorem signed_txt (neg : Bool) {v : Nat} (hv : v ≠ 0) : txtZ (signed neg v) = (if neg then 45 :: Lib.decDigits v else Lib.decDigits v) := by
 unfold signed
 cases neg
 · rw [txtZ_nonneg (by simp)]; simp
 · rw [txtZ_neg (by simp; omega)]; simp
theorem parseR_eq (l : List UInt8) : parseR l = parseO l := by
 obtain ⟨ds, hds⟩ : ∃ ds, headP l = ds := ⟨_, rfl⟩
 unfold parseR parseO
 by_cases hok : okP l = true
 · rw [if_pos hok, hds]
   unfold okP at hok
   rw [hds, Bool.and_eq_true] at hok
   obtain ⟨h1, h2⟩ := hok
   have hall : ∀ c ∈ ds, isD c := fun c hc => of_decide_eq_true (List.all_eq_true.1 h2 c hc)
   have htxt : txtZ (signed (negP l) (dv ds)) = l := by
    match ds, h1, hds, hall with
    | c :: r, h1, hds, hall =>
      rw [Bool.and_eq_true, Bool.or_eq_true] at h1
      obtain ⟨-, h3⟩ := h1
      by_cases h48 : c.toNat = 48
      · have hl : l = [48] := by
         rcases h3 with h3 | h3
         · simp [h48] at h3
         · simpa using h3
        subst hl
        have e : headP [48] = [48] := by decide
        rw [e] at hds
        rw [← hds, show negP [48] = false by decide, dv_one]
        exact txtZ_zero
      · obtain ⟨h5, h6⟩ := dec_dv r.length (c :: r) rfl hall (fun c' r' e => by cases e; exact h48)
        rw [signed_txt _ h6, h5]
        rcases head_neg l with ⟨hn, hl⟩ | ⟨hn, hl, -⟩
        · rw [hn, if_pos rfl, ← hds]; exact hl.symm
        · rw [hn, if_neg (by decide), ← hds]; exact hl
   by_cases hf : dlen (dv ds) ≤ 64
   · rw [if_pos ⟨hall, hf, htxt⟩, fitO_some (by rw [signed_abs]; exact hf)]
   · rw [if_neg (fun h => hf h.2.1), fitO_none (by rw [signed_abs]; exact hf)]
 · rw [if_neg hok]
   refine if_neg fun h => hok ?_
   obtain ⟨h1, h2, h3⟩ := h
   rw [hds] at h1 h2 h3
   unfold okP
   rw [hds]
   have hall : ds.all (fun c => decide (isD c)) = true := List.all_eq_true.2 fun x hx => decide_eq_true (h1 x hx)
   rw [hall, Bool.and_true]
   by_cases hv : dv ds = 0
   · rw [hv] at h3
     have h0 : signed (negP l) 0 = 0 := by unfold signed; cases negP l <;> rfl
     rw [h0, txtZ_zero] at h3
     subst h3
     have e : headP [48] = [48] := by decide
     rw [e] at hds
     subst hds
     decide
   · rw [signed_txt _ hv] at h3
     have hd : ds = Lib.decDigits (dv ds) := by
      rcases head_neg l with ⟨hn, hl⟩ | ⟨hn, hl, -⟩
      · rw [hn, if_pos rfl] at h3
        rw [hl, hds] at h3
        exact (List.cons.inj h3).2.symm
      · rw [hn, if_neg (by decide)] at h3
        rw [hds] at hl
        rw [hl]; exact h3.symm.trans (by rw [← hl])
     obtain ⟨c, r, h4, -, h5⟩ := dec_head (dv ds)
     rw [h4] at hd
     have hlen : ds.length ≤ 640 := by
      have : ds.length = Lib.nDigits (dv ds) := by rw [← Lib.decDigits_length, h4, ← hd]
      rw [this]; exact nd_fit h2
     rw [hd] at hlen ⊢
     have := h5 hv
     simp only [Bool.and_eq_true, Bool.or_eq_true, decide_eq_true_eq]
     exact ⟨hlen, .inl (by simpa using this)⟩
end Go.Proofs.YtgenaicmjddjcaaGreatDoor

/- The reference's plus, the second digits possibly with zeros at the end. -/
namespace Go.Proofs.YtgenaicmjddjcaaGreatDoor
open Go.RowKit Go.Shelf

structure WideD (w : World) (a : Option Addr) (n x : Nat) : Prop where
 len : dlen x ≤ n
 dig : Dig w a n (dgt x)
theorem WideD.below {w w' : World} {a : Option Addr} {n x : Nat} (h : WideD w a n x) (t : Below w.heap.size w w') : WideD w' a n x := ⟨h.len, h.dig.below t⟩
theorem rat_wide (a : Option Addr) (n c k x : Nat) (hn : n ≤ 1099511627776) (hk : k ≤ 1099511627776) (w : World) (hd : WideD w a n x) :
 Calls Tryz.prog 121 #[.slice a n c, .int .i64 (k : Int)] w fun e w' => e = .returned (.int .u64 ((dgt x k : Nat) : Int)) ∧ w = w' := by
 have := rat_any a n c k (dgt x) hn hk (fun _ _ => dgt_lt _ _) w hd.dig
 have e : mixF (dgt x) (fun _ => 0) n = dgt x := by
  funext j
  unfold mixF
  split
  · rfl
  · rename_i hj
    unfold dgt
    rw [Nat.div_eq_of_lt (Nat.lt_of_lt_of_le (lt_bp_dlen x) (bp_le (Nat.le_trans hd.len (by omega))))]
 rw [e] at this; exact this

set_option maxRecDepth 100000 in
set_option maxHeartbeats 4000000 in
theorem rplus_wide (ax ay : Option Addr) (x y nx ny cx cy : Nat) (hn : nx ≤ 100000000000) (hn' : ny ≤ 100000000000) (w : World) (hx : IsD w ax nx x) (hy : WideD w ay ny y) :
 Calls Tryz.prog 74 #[.slice ax nx cx, .slice ay ny cy] w (DigPost w (x + y)) := by
 obtain ⟨i0, hi, hz0, hz1, hz2⟩ := info_parts info_u32
 have HI := hide hi
 have HZ := hide (And.intro hz0 (And.intro hz1 hz2))
 have HX := hide hx
 have HY := hide hy
 have HLX := hide hx.len
 have HLY := hide hy.len
 clear hi hz0 hz1 hz2 hx hy
 go_enter Tryz.func74, Tryz.ntmps74
 go_wp2_with fail
 go_loopw [5, 6, 7] (fun ov cv i wr => ∃ (k r : Nat) (h : Nat → Nat), (k ≤ nx ∨ k ≤ ny) ∧ r ≤ 1 ∧ i = .int .i64 (k : Int) ∧ cv = .int .u64 (r : Int) ∧ (∀ j, h j < 4294967296) ∧ valF h k + r * bp k = valF (dgt x) k + valF (dgt y) k ∧
  wr.ownsRow w.heap.size 68 1 ov k (digVals h k) ∧ Below w.heap.size w wr)
  (fun _ _ i _ => nx + ny - (intOf i).toNat)
 case atStart => exact ⟨0, 0, fun _ => 0, .inl (Nat.zero_le _), by decide, rfl, rfl, fun _ => by show (0 : Nat) < _; decide, by simp [valF_zero], World.ownsRow_nil _ _ _ _, Below.refl _ _⟩
 case round =>
  obtain ⟨k, r, h, hk, hr1, rfl, rfl, hlt, hval, ho, hr⟩ := hrel
  have HO := hide ho
  have HV := hide hval
  have HL := hide hlt
  have HSZ := hide hr.size
  clear ho hval hlt
  by_cases hgo : k < nx ∨ k < ny
  · have hdx : dgt x k < 4294967296 := dgt_lt _ _
    have hdy : dgt y k < 4294967296 := dgt_lt _ _
    have CA : Hid (∀ W, Below w.heap.size w W → Calls Tryz.prog 121 #[.slice ax nx cx, .int .i64 (k : Int)] W fun e w' => e = .returned (.int .u64 ((dgt x k : Nat) : Int)) ∧ W = w') := fun W hW => rat_num ax nx cx k x (by omega) (by omega) W (HX.out.below hW)
    have CB : Hid (∀ W, Below w.heap.size w W → Calls Tryz.prog 121 #[.slice ay ny cy, .int .i64 (k : Int)] W fun e w' => e = .returned (.int .u64 ((dgt y k : Nat) : Int)) ∧ W = w') := fun W hW => rat_wide ay ny cy k y (by omega) (by omega) W (HY.out.below hW)
    rcases (by omega : k < nx ∨ (¬ k < nx ∧ k < ny)) with h1 | ⟨h1, h2⟩
    all_goals
     go_wp2_with fail
     refine (CA.out _ hr).mono ?_
     rintro e w' ⟨rfl, rfl⟩
     go_wp2_with fail
     refine (CB.out _ hr).mono ?_
     rintro e w' ⟨rfl, rfl⟩
     have hsum : ((r : Int) + ((dgt x k : Nat) : Int) + ((dgt y k : Nat) : Int)) % 4294967296 = (((r + dgt x k + dgt y k) % 4294967296 : Nat) : Int) := by omega
     have hdiv : ((r : Int) + ((dgt x k : Nat) : Int) + ((dgt y k : Nat) : Int)) / 4294967296 = (((r + dgt x k + dgt y k) / 4294967296 : Nat) : Int) := by omega
     have HSUM := hide hsum
     have HDIV := hide hdiv
     clear hsum hdiv
     go_wp2_with (at_builtin; refine wpList_append_own _ rfl _ _ 23 rfl w.heap.size 68 i0 (.int .u32 0) 1 4 Tryz.underlying23 HI.out HZ.out.1 HZ.out.2.1 HZ.out.2.2 rfl (by decide) _ _ _ rfl (HO.out.alloc _) ⟨wr.heap.size, 0, none⟩ 1 1 [.int .u32 (((r : Int) + ((dgt x k : Nat) : Int) + ((dgt y k : Nat) : Int)) % 4294967296)] rfl rfl (fun j u hj => by match j, hj with | 0, hj => simp at hj; subst hj; simp [Addr.add]) (fun u hu => by simp at hu; subst hu; rfl) (by unfold maxLen; omega) (by omega) (by have := HSZ.out; simp; omega) ?_; intro v' w2 hown hgrow _)
     have hb2 : Below w.heap.size w w2 := (hr.alloc HSZ.out _).grown hgrow (by rw [World.size_alloc]; have := HSZ.out; omega) (fun k' hk' => (HO.out.lt k' hk').1)
     go_roundw
     case rel => exact ⟨k + 1, (r + dgt x k + dgt y k) / 4294967296, putF h k ((r + dgt x k + dgt y k) % 4294967296), by omega, by omega, by go_num, by rw [HDIV.out], fun j => by unfold putF; split; exact Nat.mod_lt _ (by decide); exact HL.out j,
      by rw [valF_succ, valF_succ, valF_succ, bp_succ, putF_same, valF_putF_ge _ _ (Nat.le_refl _)]; exact plus_step HV.out, by rw [digVals_put, ← HSUM.out]; exact hown, hb2⟩
     case measure => simp [intOf]; omega
  · have hkx : nx ≤ k := by omega
    have hky : ny ≤ k := by omega
    have hr32 : (r : Int) % 4294967296 = ((r : Nat) : Int) := by omega
    have HR := hide hr32
    have h1 : ¬ (k : Int) < nx := by omega
    have h2 : ¬ (k : Int) < ny := by omega
    have hvx : valF (dgt x) k = x := val_full (by rw [← HLX.out]; exact hkx)
    have hvy : valF (dgt y) k = y := val_full (Nat.le_trans HLY.out hky)
    have HVX := hide hvx
    have HVY := hide hvy
    clear hr32 hvx hvy
    go_wp2_with (at_builtin; refine wpList_append_own _ rfl _ _ 23 rfl w.heap.size 68 i0 (.int .u32 0) 1 4 Tryz.underlying23 HI.out HZ.out.1 HZ.out.2.1 HZ.out.2.2 rfl (by decide) _ _ _ rfl (HO.out.alloc _) ⟨wr.heap.size, 0, none⟩ 1 1 [.int .u32 (r : Int)] rfl rfl (fun j u hj => by match j, hj with | 0, hj => simp at hj; subst hj; simp [Addr.add]) (fun u hu => by simp at hu; subst hu; rfl) (by unfold maxLen; omega) (by omega) (by have := HSZ.out; simp; omega) ?_; intro v' w2 hown hgrow _)
    have hb2 : Below w.heap.size w w2 := (hr.alloc HSZ.out _).grown hgrow (by rw [World.size_alloc]; have := HSZ.out; omega) (fun k' hk' => (HO.out.lt k' hk').1)
    have hown' : w2.ownsRow w.heap.size 68 1 v' (k + 1) (digVals (putF h k r) (k + 1)) := by rw [digVals_put]; exact hown
    have hval : valF (putF h k r) (k + 1) = x + y := by rw [valF_succ, putF_same, valF_putF_ge _ _ (Nat.le_refl _), HV.out, HVX.out, HVY.out]
    obtain ⟨a3, c3, rfl, hcall⟩ := trim_own (by omega) (Nat.le_refl _) (fun j _ => by unfold putF; split; omega; exact HL.out j) hown' hb2
    rw [hval] at hcall
    refine hcall.mono ?_
    rintro e w3 ⟨a4, n4, c4, rfl, h4⟩
    go_wp2
    go_ret
    exact ⟨a4, n4, c4, rfl, h4⟩

theorem wide_one {w : World} {b d : Nat} (hd : d < 4294967296) (h : w.cell? ⟨b, 0, none⟩ = some (.int .u32 (d : Int))) : WideD w (some ⟨b, 0, none⟩) 1 d :=
 ⟨dlen_le_iff.2 (by rw [bp_one]; exact hd), .inr ⟨b, 0, rfl, fun j hj => by
   obtain rfl : j = 0 := by omega
   show w.cell? ⟨b, 0, none⟩ = _
   rw [h]
   unfold dgt
   rw [bp_zero, Nat.div_one, Nat.mod_eq_of_lt hd]⟩⟩
theorem dv_mono (p q : List UInt8) : dv p ≤ dv (p ++ q) := by
 rw [dv_append]
 have : dv p * 1 ≤ dv p * 10 ^ q.length := Nat.mul_le_mul_left _ (Nat.pow_pos (by decide))
 omega
theorem parseR_bad {l p q : List UInt8} {c : UInt8} (h : headP l = p ++ c :: q) (hc : ¬ isD c) : parseR l = none :=
 if_neg fun hh => hc (hh.1 c (by rw [h]; simp))
theorem parseR_long {l p q : List UInt8} (h : headP l = p ++ q) (hp : 64 < dlen (dv p)) : parseR l = none :=
 if_neg fun hh => by
  have h1 := hh.2.1
  rw [h] at h1
  have := dlen_mono (dv_mono p q)
  omega
end Go.Proofs.YtgenaicmjddjcaaGreatDoor

/- The reference's Parse of whatever string. -/
namespace Go.Proofs.YtgenaicmjddjcaaGreatDoor
open Go.RowKit Go.Shelf

theorem wpAnyH_duo {P : Program} {md : Region.Mode} {ops : Array Oper} {Q : Exit → Act → World → Prop} {S : World → Prop} {fuel : Nat} {l : Array Bool} {a : Act} {w : World} (i j : Nat) (hr : Region.ready md ops l = [i, j])
 (h : wpOp P ops Q i (fun a' w' => S w' ∧ wpAnyH P md ops Q S fuel (l.setIfInBounds i true) a' w') a w) (h' : wpOp P ops Q j (fun a' w' => S w' ∧ wpAnyH P md ops Q S fuel (l.setIfInBounds j true) a' w') a w) : wpAnyH P md ops Q S (fuel + 1) l a w := by
 refine ⟨fun h0 => ?_, fun k hk => ?_⟩
 · rw [hr] at h0; cases h0
 · rw [hr] at hk
   rcases List.mem_cons.1 hk with rfl | hk
   · exact h
   · obtain rfl : k = j := by simpa using hk
     exact h'

set_option maxRecDepth 100000 in
set_option maxHeartbeats 8000000 in
theorem rparse_plain (l : List UInt8) (hl63 : l.length ≤ 9223372036854775806) (hFl : 0 ≤ l.length) (hdrop : headP l = l.drop 0) (hneg : negP l = decide ((0 : Nat) = 1)) (hpos : (0 : Int) < (l.length : Int)) (h45 : ∀ h, ((((⟨l.toArray⟩ : ByteArray)[0]'h).toNat : Int) == 45) = false) (w : World) :
 Calls Tryz.prog 14 #[.string ⟨l.toArray⟩] w (OptPost w (parseR l)) := by
 have bC : Box2 (w.alloc (Obj.cells #[.bool false, .slice none 0 0] 25)) w.heap.size (.bool false) (.slice none 0 0) := Box2.new _ _ _ _
 have hB0 := below_alloc' w (Obj.cells #[.bool false, .slice none 0 0] 25)
 have h45 := h45 (by rw [bytes_size]; omega)
 have hs : (⟨l.toArray⟩ : ByteArray).size = l.length := bytes_size l
 have HDN := hide (And.intro hdrop hneg)
 clear hdrop hneg
 go_enter Tryz.func14, Tryz.ntmps14
 go_wp2_with fail
 obtain ⟨W0, hW0⟩ : ∃ W0, w.alloc (Obj.cells #[.bool false, .slice none 0 0] 25) = W0 := ⟨_, rfl⟩
 rw [hW0] at bC hB0 ⊢
 clear hW0
 obtain ⟨e14, h14⟩ : ∃ e, Value.int .u8 ((((⟨l.toArray⟩ : ByteArray)[0]'(by rw [hs]; omega)).toNat : Nat) : Int) = e := ⟨_, rfl⟩
 rw [h14]
 clear h14 h45
 go_loopw [5, 6] (fun gv kv wr => ∃ (k : Nat) (a : Option Addr) (n c : Nat), 0 ≤ k ∧ k ≤ l.length ∧ kv = .int .i64 (k : Int) ∧ gv = .slice a n c ∧ IsD wr a n (dv ((l.drop 0).take (k - 0))) ∧ n ≤ c ∧ n ≤ 64 ∧ (n = 0 ∨ Fresh w a) ∧
  (∀ x ∈ (l.drop 0).take (k - 0), isD x) ∧ Box2 wr w.heap.size (.bool false) (.slice none 0 0) ∧ Below w.heap.size w wr)
  (fun _ kv _ => l.length - (intOf kv).toNat)
 case atStart => exact ⟨0, none, 0, 0, Nat.le_refl _, hFl, rfl, rfl, ⟨by rw [Nat.sub_self, List.take_zero]; unfold dv; rw [dvA_nil, dlen_zero], .inl rfl⟩, Nat.le_refl _, by decide, .inl rfl, (fun x hx => by rw [Nat.sub_self, List.take_zero] at hx; cases hx), bC, hB0⟩
 case round =>
  obtain ⟨k, a, n, c, hFk, hk, rfl, rfl, hI, hnc, hn64, hf, hall, bX, hB⟩ := hrel
  by_cases hlt : k < l.length
  · have hki : (k : Int) < (l.length : Int) := by omega
    obtain ⟨x, hx⟩ : ∃ x, l[k] = x := ⟨_, rfl⟩
    have hix : (⟨l.toArray⟩ : ByteArray)[k]'(by rw [hs]; exact hlt) = x := by rw [← hx]; rfl
    have hsplit : l.drop 0 = (l.drop 0).take (k - 0) ++ x :: l.drop (k + 1) := by
     have h1 := (List.take_append_drop (k - 0) (l.drop 0)).symm
     rw [List.drop_drop, show 0 + (k - 0) = k by omega, List.drop_eq_getElem_cons hlt, hx] at h1
     exact h1
    obtain ⟨v, hv⟩ : ∃ v, dv ((l.drop 0).take (k - 0)) = v := ⟨_, rfl⟩
    have HSP := hide (And.intro hsplit (And.intro hall hv))
    have HX2 := hide hx
    rw [hv] at hI
    clear hall hv hsplit hx
    have K := hide (no_store bX (Nat.le_refl _) hB)
    by_cases hlow : x.toNat < 48
    · have hlow' : (x.toNat : Int) < 48 := by omega
      have hnone := parseR_bad (HDN.out.1.trans HSP.out.1) (show ¬ isD x by unfold isD; omega)
      have HN := hide hnone
      clear hnone
      obtain ⟨r0, r1, z0, z1⟩ := bX
      go_wp2
      obtain ⟨⟨q0, q1, -, -⟩, hBB⟩ := K.out
      exact bodyPost_ret (v := .tuple #[.agg #[.bool false, .slice none 0 0], .bool false]) (by simp [results, Tryz.results14, go_sem, q0, q1]) rfl (NoPost.opt ⟨rfl, hBB⟩ HN.out)
    · have hnlow : ¬ ((x.toNat : Int) < 48) := by omega
      by_cases hhigh : 57 < x.toNat
      · have hhigh' : (57 : Int) < (x.toNat : Int) := by omega
        have hnone := parseR_bad (HDN.out.1.trans HSP.out.1) (show ¬ isD x by unfold isD; omega)
        have HN := hide hnone
        clear hnone
        obtain ⟨r0, r1, z0, z1⟩ := bX
        go_wp2
        obtain ⟨⟨q0, q1, -, -⟩, hBB⟩ := K.out
        exact bodyPost_ret (v := .tuple #[.agg #[.bool false, .slice none 0 0], .bool false]) (by simp [results, Tryz.results14, go_sem, q0, q1]) rfl (NoPost.opt ⟨rfl, hBB⟩ HN.out)
      · have hnh : ¬ ((57 : Int) < (x.toNat : Int)) := by omega
        have hd : isD x := by unfold isD; omega
        have HD := hide hd
        clear hd hhigh hlow
        go_wp2_with fail
        obtain ⟨dd, hdd⟩ : ∃ dd : Nat, x.toNat - 48 = dd := ⟨_, rfl⟩
        have hsub : (x.toNat : Int) - 48 = (dd : Int) := by omega
        have hdd9 : dd ≤ 9 := by omega
        have hdd32 : dd < 4294967296 := by omega
        have HDD := hide hdd
        clear hdd
        have hv65 : dlen (v * 10) ≤ 65 := by
         have h1 : v < bp 64 := dlen_le_iff.1 (by rw [← hI.len]; exact hn64)
         have h2 : bp 65 = 4294967296 * bp 64 := bp_succ 64
         rw [dlen_le_iff]
         generalize bp 64 = q at h1 h2
         omega
        obtain ⟨RR, hRR⟩ : ∃ RR : Act → World → Prop, RR = (fun fr w' => ∃ (av : Option Addr) (nv cv : Nat) (y35 y36 y37 y38 y39 y40 y41 y42 y43 y44 : Value), fr = ⟨#[.string ⟨l.toArray⟩, undef, .pointer (some ⟨w.heap.size, 0, none⟩), u3, .int .i64 0, .slice av nv cv, .int .i64 (k : Int), undef, undef, .string ⟨l.toArray⟩, .int .i64 (l.length : Int), .bool true, .bool true, .string ⟨l.toArray⟩, e14, .bool false, .bool false, .int .i64 0, .int .i64 (k : Int), .string ⟨l.toArray⟩, .int .i64 (l.length : Int), .bool true, u22, u23, .string ⟨l.toArray⟩, .int .i64 (k : Int), .int .u8 (x.toNat : Int), .bool false, .bool false, .string ⟨l.toArray⟩, .int .i64 (k : Int), .int .u8 (x.toNat : Int), .bool false, .bool false, u34, y35, y36, y37, y38, y39, y40, y41, y42, y43, y44, u45, u46, u47, u48, undef, undef, undef, undef, undef, undef, undef, undef, undef, undef, undef, undef, undef], []⟩ ∧ IsD w' av nv (v * 10 + dd) ∧ nv ≤ cv ∧ (nv = 0 ∨ Fresh wr.drew av) ∧ Below wr.drew.heap.size wr.drew w') := ⟨_, rfl⟩
        have HRR := hide hRR
        clear hRR
        refine Code.wp_mono (Q := fun e x w' => e = Exit.normal ∧ RR x w') ?imp ?reg
        case reg =>
         have hP0 : IsD wr.drew a n v := hI.below (Below.drew (Below.refl _ _))
         have hw1 : IntKind.u8.wrap (dd : Int) = (dd : Int) := by simp [IntKind.wrap, IntKind.bits, IntKind.signed]; omega
         have hw2 : IntKind.u32.wrap (dd : Int) = (dd : Int) := by simp [IntKind.wrap, IntKind.bits, IntKind.signed]; omega
         refine wp_region_held_drew (S := fun w' => Below wr.drew.heap.size wr.drew w') (by kernel_rfl) (Below.refl _ _) (fun hHeld => ?_)
         obtain ⟨WE, hWE⟩ : ∃ WE, wr.drew = WE := ⟨_, rfl⟩
         rw [hWE] at hP0 hHeld HRR ⊢
         clear hWE bX hB hI
         refine tk 0 (.slice a n c) 35 rfl rfl ?_ (hQ := fun _ _ _ h => by cases h.1)
         try simp only [Act.put, pA, pB, pC]
         refine tk 3 (.string ⟨l.toArray⟩) 38 rfl rfl ?_ (hQ := fun _ _ _ h => by cases h.1)
         try simp only [Act.put, pA, pB, pC]
         refine tk 4 (.int .i64 (k : Int)) 39 rfl rfl ?_ (hQ := fun _ _ _ h => by cases h.1)
         try simp only [Act.put, pA, pB, pC]
         refine tk 5 (.int .u8 (x.toNat : Int)) 40 rfl rfl ?_ (hQ := fun _ _ _ h => by cases h.1)
         try simp only [Act.put, pA, pB, pC]
         refine tk 6 (.int .u8 (dd : Int)) 41 rfl rfl ?_ (hQ := fun _ _ _ h => by cases h.1)
         try simp only [Act.put, pA, pB, pC]
         refine tk 7 (.int .u32 (dd : Int)) 42 rfl rfl ?_ (hQ := fun _ _ _ h => by cases h.1)
         try simp only [Act.put, pA, pB, pC]
         refine wpAnyH_duo 1 8 (by kernel_rfl) ?_ ?_
         · refine wpOp_run (i := 1) rfl ?_
           go_simp
           have hka1 := below_alloc' WE (Obj.cells #[.int IntKind.u32 10] 68)
           have hc1 : (WE.alloc (Obj.cells #[.int IntKind.u32 10] 68)).cell? ⟨WE.heap.size, 0, none⟩ = some (.int .u32 10) := by simp [go_sem]
           have hb1 : Below WE.heap.size WE (WE.alloc (Obj.cells #[.int IntKind.u32 10] 68)) := hHeld.trans (hka1.mono hHeld.size)
           obtain ⟨w1, hw1⟩ : ∃ w1, WE.alloc (Obj.cells #[.int IntKind.u32 10] 68) = w1 := ⟨_, rfl⟩
           rw [hw1] at hka1 hc1 hb1 ⊢
           clear hw1
           refine ⟨hb1, ?_⟩
           try simp only [Act.put, pA, pB, pC]
           refine wpAnyH_duo 2 8 (by kernel_rfl) ?_ ?_
           · refine wpOp_call (i := 2) (f := 75) (args := #[.slice a n c, .slice (some ⟨WE.heap.size, 0, none⟩) 1 1]) 37 rfl rfl (by rfl) (by go_simp) ?_
             refine (rtimes_any a (some ⟨WE.heap.size, 0, none⟩) v 10 n 1 c 1 (by omega) (by decide) _ (hP0.below hb1) ⟨(dlen_one (by decide) (by decide)).symm, (wide_one (d := 10) (by decide) hc1).dig⟩).mono ?_
             rintro e wm ⟨a1, n1, c1, rfl, N1, hnc1, hf1, km⟩
             have hbm : Below WE.heap.size WE wm := hb1.trans (km.mono hb1.size)
             have hn1 : n1 ≤ 65 := by rw [N1.len]; exact hv65
             refine ⟨_, rfl, hbm, ?_⟩
             try simp only [Act.put, pA, pB, pC]
             refine wpAnyH_one 8 (by kernel_rfl) ?_
             refine wpOp_run (i := 8) rfl ?_
             go_simp
             have hka2 := below_alloc' wm (Obj.cells #[.int IntKind.u32 (dd : Int)] 68)
             have hc2 : (wm.alloc (Obj.cells #[.int IntKind.u32 (dd : Int)] 68)).cell? ⟨wm.heap.size, 0, none⟩ = some (.int .u32 (dd : Int)) := by simp [go_sem]
             have hb2 : Below WE.heap.size WE (wm.alloc (Obj.cells #[.int IntKind.u32 (dd : Int)] 68)) := hbm.trans (hka2.mono hbm.size)
             obtain ⟨w2, hw2⟩ : ∃ w2, wm.alloc (Obj.cells #[.int IntKind.u32 (dd : Int)] 68) = w2 := ⟨_, rfl⟩
             rw [hw2] at hka2 hc2 hb2 ⊢
             clear hw2
             refine ⟨hb2, ?_⟩
             try simp only [Act.put, pA, pB, pC]
             refine wpAnyH_one 9 (by kernel_rfl) ?_
             refine wpOp_call (i := 9) (f := 74) (args := #[.slice a1 n1 c1, .slice (some ⟨wm.heap.size, 0, none⟩) 1 1]) 44 rfl rfl (by rfl) (by go_simp) ?_
             refine (rplus_wide a1 (some ⟨wm.heap.size, 0, none⟩) (v * 10) dd n1 1 c1 1 (by omega) (by decide) _ (N1.below hka2) (wide_one hdd32 hc2)).mono ?_
             rintro e wp ⟨av, nv, cv, rfl, Nv, hncv, hfv, kp⟩
             have hsz := hb2.size
             have hbp : Below WE.heap.size WE wp := hb2.trans (kp.mono hsz)
             refine ⟨_, rfl, hbp, ?_⟩
             try simp only [Act.put, pA, pB, pC]
             refine wpAnyH_one 10 (by kernel_rfl) ?_
             refine wpOp_run (i := 10) rfl ?_
             go_simp
             refine wpAnyH_done (by kernel_rfl) ?_ _
             refine ⟨rfl, ?_⟩
             rw [HRR.out]
             exact ⟨av, nv, cv, _, _, _, _, _, _, _, _, _, _, rfl, Nv, hncv, hfv.imp id fun h ad e => Nat.le_trans hsz (h ad e), hbp⟩
           · refine wpOp_run (i := 8) rfl ?_
             go_simp
             have hka2 := below_alloc' w1 (Obj.cells #[.int IntKind.u32 (dd : Int)] 68)
             have hc2 : (w1.alloc (Obj.cells #[.int IntKind.u32 (dd : Int)] 68)).cell? ⟨w1.heap.size, 0, none⟩ = some (.int .u32 (dd : Int)) := by simp [go_sem]
             have hb2 : Below WE.heap.size WE (w1.alloc (Obj.cells #[.int IntKind.u32 (dd : Int)] 68)) := hb1.trans (hka2.mono hb1.size)
             obtain ⟨w2, hw2⟩ : ∃ w2, w1.alloc (Obj.cells #[.int IntKind.u32 (dd : Int)] 68) = w2 := ⟨_, rfl⟩
             rw [hw2] at hka2 hc2 hb2 ⊢
             clear hw2
             refine ⟨hb2, ?_⟩
             try simp only [Act.put, pA, pB, pC]
             have hc1 := (hka2.cell (lt_of_cell hc1)).trans hc1
             refine wpAnyH_one 2 (by kernel_rfl) ?_
             refine wpOp_call (i := 2) (f := 75) (args := #[.slice a n c, .slice (some ⟨WE.heap.size, 0, none⟩) 1 1]) 37 rfl rfl (by rfl) (by go_simp) ?_
             refine (rtimes_any a (some ⟨WE.heap.size, 0, none⟩) v 10 n 1 c 1 (by omega) (by decide) _ (hP0.below hb2) ⟨(dlen_one (by decide) (by decide)).symm, (wide_one (d := 10) (by decide) hc1).dig⟩).mono ?_
             rintro e wm ⟨a1, n1, c1, rfl, N1, hnc1, hf1, km⟩
             have hbm : Below WE.heap.size WE wm := hb2.trans (km.mono hb2.size)
             have hn1 : n1 ≤ 65 := by rw [N1.len]; exact hv65
             refine ⟨_, rfl, hbm, ?_⟩
             try simp only [Act.put, pA, pB, pC]
             have hc2 := (km.cell (lt_of_cell hc2)).trans hc2
             refine wpAnyH_one 9 (by kernel_rfl) ?_
             refine wpOp_call (i := 9) (f := 74) (args := #[.slice a1 n1 c1, .slice (some ⟨w1.heap.size, 0, none⟩) 1 1]) 44 rfl rfl (by rfl) (by go_simp) ?_
             refine (rplus_wide a1 (some ⟨w1.heap.size, 0, none⟩) (v * 10) dd n1 1 c1 1 (by omega) (by decide) _ N1 (wide_one hdd32 hc2)).mono ?_
             rintro e wp ⟨av, nv, cv, rfl, Nv, hncv, hfv, kp⟩
             have hsz := hbm.size
             have hbp : Below WE.heap.size WE wp := hbm.trans (kp.mono hsz)
             refine ⟨_, rfl, hbp, ?_⟩
             try simp only [Act.put, pA, pB, pC]
             refine wpAnyH_one 10 (by kernel_rfl) ?_
             refine wpOp_run (i := 10) rfl ?_
             go_simp
             refine wpAnyH_done (by kernel_rfl) ?_ _
             refine ⟨rfl, ?_⟩
             rw [HRR.out]
             exact ⟨av, nv, cv, _, _, _, _, _, _, _, _, _, _, rfl, Nv, hncv, hfv.imp id fun h ad e => Nat.le_trans hsz (h ad e), hbp⟩
         · refine wpOp_run (i := 8) rfl ?_
           go_simp
           have hka2 := below_alloc' WE (Obj.cells #[.int IntKind.u32 (dd : Int)] 68)
           have hc2 : (WE.alloc (Obj.cells #[.int IntKind.u32 (dd : Int)] 68)).cell? ⟨WE.heap.size, 0, none⟩ = some (.int .u32 (dd : Int)) := by simp [go_sem]
           have hb2 : Below WE.heap.size WE (WE.alloc (Obj.cells #[.int IntKind.u32 (dd : Int)] 68)) := hHeld.trans (hka2.mono hHeld.size)
           obtain ⟨w2, hw2⟩ : ∃ w2, WE.alloc (Obj.cells #[.int IntKind.u32 (dd : Int)] 68) = w2 := ⟨_, rfl⟩
           rw [hw2] at hka2 hc2 hb2 ⊢
           clear hw2
           refine ⟨hb2, ?_⟩
           try simp only [Act.put, pA, pB, pC]
           refine wpAnyH_one 1 (by kernel_rfl) ?_
           refine wpOp_run (i := 1) rfl ?_
           go_simp
           have hka1 := below_alloc' w2 (Obj.cells #[.int IntKind.u32 10] 68)
           have hc1 : (w2.alloc (Obj.cells #[.int IntKind.u32 10] 68)).cell? ⟨w2.heap.size, 0, none⟩ = some (.int .u32 10) := by simp [go_sem]
           have hb1 : Below WE.heap.size WE (w2.alloc (Obj.cells #[.int IntKind.u32 10] 68)) := hb2.trans (hka1.mono hb2.size)
           obtain ⟨w1, hw1⟩ : ∃ w1, w2.alloc (Obj.cells #[.int IntKind.u32 10] 68) = w1 := ⟨_, rfl⟩
           rw [hw1] at hka1 hc1 hb1 ⊢
           clear hw1
           refine ⟨hb1, ?_⟩
           try simp only [Act.put, pA, pB, pC]
           have hc2 := (hka1.cell (lt_of_cell hc2)).trans hc2
           refine wpAnyH_one 2 (by kernel_rfl) ?_
           refine wpOp_call (i := 2) (f := 75) (args := #[.slice a n c, .slice (some ⟨w2.heap.size, 0, none⟩) 1 1]) 37 rfl rfl (by rfl) (by go_simp) ?_
           refine (rtimes_any a (some ⟨w2.heap.size, 0, none⟩) v 10 n 1 c 1 (by omega) (by decide) _ (hP0.below hb1) ⟨(dlen_one (by decide) (by decide)).symm, (wide_one (d := 10) (by decide) hc1).dig⟩).mono ?_
           rintro e wm ⟨a1, n1, c1, rfl, N1, hnc1, hf1, km⟩
           have hbm : Below WE.heap.size WE wm := hb1.trans (km.mono hb1.size)
           have hn1 : n1 ≤ 65 := by rw [N1.len]; exact hv65
           refine ⟨_, rfl, hbm, ?_⟩
           try simp only [Act.put, pA, pB, pC]
           have hc2 := (km.cell (lt_of_cell hc2)).trans hc2
           refine wpAnyH_one 9 (by kernel_rfl) ?_
           refine wpOp_call (i := 9) (f := 74) (args := #[.slice a1 n1 c1, .slice (some ⟨WE.heap.size, 0, none⟩) 1 1]) 44 rfl rfl (by rfl) (by go_simp) ?_
           refine (rplus_wide a1 (some ⟨WE.heap.size, 0, none⟩) (v * 10) dd n1 1 c1 1 (by omega) (by decide) _ N1 (wide_one hdd32 hc2)).mono ?_
           rintro e wp ⟨av, nv, cv, rfl, Nv, hncv, hfv, kp⟩
           have hsz := hbm.size
           have hbp : Below WE.heap.size WE wp := hbm.trans (kp.mono hsz)
           refine ⟨_, rfl, hbp, ?_⟩
           try simp only [Act.put, pA, pB, pC]
           refine wpAnyH_one 10 (by kernel_rfl) ?_
           refine wpOp_run (i := 10) rfl ?_
           go_simp
           refine wpAnyH_done (by kernel_rfl) ?_ _
           refine ⟨rfl, ?_⟩
           rw [HRR.out]
           exact ⟨av, nv, cv, _, _, _, _, _, _, _, _, _, _, rfl, Nv, hncv, hfv.imp id fun h ad e => Nat.le_trans hsz (h ad e), hbp⟩
        case imp =>
         rintro e y wq ⟨rfl, hr⟩
         rw [HRR.out] at hr
         obtain ⟨av, nv, cv, y35, y36, y37, y38, y39, y40, y41, y42, y43, y44, rfl, Nv, hncv, hfv, hkeep⟩ := hr
         clear HRR RR
         have hBq := hB.drew.trans (hkeep.mono hB.size)
         have bXq : Box2 wq w.heap.size (.bool false) (.slice none 0 0) := Box2.below (w := wr.drew) (bX.below (Below.drew (Below.refl _ _)) bX.lt) hkeep bX.lt
         have K := hide (no_store bXq (Nat.le_refl _) hBq)
         have hdvx : dv ((l.drop 0).take (k - 0) ++ [x]) = v * 10 + dd := by rw [dv_append, dv_one, HSP.out.2.2, HDD.out, List.length_singleton, Nat.pow_one]
         have HDV := hide hdvx
         clear hdvx
         by_cases hlong : 64 < nv
         · have hlong' : (64 : Int) < (nv : Int) := by omega
           have hnone : parseR l = none := parseR_long (p := (l.drop 0).take (k - 0) ++ [x]) (q := l.drop (k + 1)) (by rw [HDN.out.1, List.append_assoc]; exact HSP.out.1) (by rw [HDV.out, ← Nv.len]; exact hlong)
           have HN := hide hnone
           clear hnone
           obtain ⟨r0, r1, z0, z1⟩ := bXq
           go_wp2_with fail
           obtain ⟨⟨q0, q1, -, -⟩, hBB⟩ := K.out
           exact bodyPost_ret (v := .tuple #[.agg #[.bool false, .slice none 0 0], .bool false]) (by simp [results, Tryz.results14, go_sem, q0, q1]) rfl (NoPost.opt ⟨rfl, hBB⟩ HN.out)
         · have hshort : ¬ (64 : Int) < (nv : Int) := by omega
           go_wp2_with fail
           have htake : (l.drop 0).take (k + 1 - 0) = (l.drop 0).take (k - 0) ++ [x] := by
            rw [show k + 1 - 0 = (k - 0) + 1 by omega, List.take_add_one, List.getElem?_drop, show 0 + (k - 0) = k by omega, List.getElem?_eq_getElem hlt, HX2.out]; rfl
           go_roundw
           case rel => exact ⟨k + 1, av, nv, cv, by omega, by omega, by go_num, rfl, by rw [htake, HDV.out]; exact Nv, hncv, by omega, hfv.imp id (fun h ad e => Nat.le_trans hB.size (h ad e)), (fun z hz => by
            rw [htake] at hz
            rcases List.mem_append.1 hz with hz | hz
            · exact HSP.out.2.1 z hz
            · obtain rfl := List.mem_singleton.1 hz; exact HD.out), bXq, hBq⟩
           case measure => simp [intOf]; omega
  · have hkl : k = l.length := by omega
    have hfull : IsD wr a n (dv (headP l)) := by
     rw [HDN.out.1]
     have e : (l.drop 0).take (k - 0) = l.drop 0 := by rw [List.take_of_length_le (by rw [List.length_drop]; omega)]
     rw [e] at hI
     exact hI
    have HFULL := hide hfull
    obtain ⟨z, hz⟩ : ∃ z, signed (negP l) (dv (headP l)) = z := ⟨_, rfl⟩
    have HFIT : Hid (fitO (signed false (dv (headP l))) = some z) := by
     show _ = _
     have hn : negP l = false := HDN.out.2
     rw [← hz, hn]
     exact fitO_some (by rw [signed_abs, ← hfull.len]; exact hn64)
    have hall' : ∀ x ∈ headP l, isD x := by
     rw [HDN.out.1]
     intro x hx
     exact hall x (by rw [List.take_of_length_le (by rw [List.length_drop]; omega)]; exact hx)
    have HPR : Hid (parseR l = if txtZ z = l then some z else none) := by
     show _ = _
     unfold parseR
     rw [hz]
     by_cases h : txtZ z = l
     · rw [if_pos h, if_pos ⟨hall', by rw [← hfull.len]; exact hn64, h⟩]
     · rw [if_neg h, if_neg (fun hh => h hh.2.2)]
    clear hI hfull hall hall' hz
    have hn40 : n ≤ 1099511627776 := by omega
    go_wp2_with fail
    refine (rsigned_num false a n c (dv (headP l)) hnc hn40 wr HFULL.out HFIT).mono ?_
    rintro e w4 ⟨s4, a4, n4, c4, rfl, N4, k4, f4, h4⟩
    have hB4 := hB.trans (h4.mono hB.size)
    have bX4 := bX.below h4 bX.lt
    have N4 : IsN w4 s4 a4 n4 z := N4
    have HN4 := hide N4
    have hltX : w.heap.size < wr.heap.size := bX.lt
    clear N4 bX hB
    go_wp2_with fail
    have b7 := Box2.new w4 (.bool s4) (.slice a4 n4 c4) 25
    have hk7 := below_alloc' w4 (Obj.cells #[.bool s4, .slice a4 n4 c4] 25)
    have hne7 : w.heap.size ≠ w4.heap.size := Nat.ne_of_lt bX4.lt
    obtain ⟨w7, hw7⟩ : ∃ w7, w4.alloc (Obj.cells #[.bool s4, .slice a4 n4 c4] 25) = w7 := ⟨_, rfl⟩
    obtain ⟨B7, hB7⟩ : ∃ B7, w4.heap.size = B7 := ⟨_, rfl⟩
    have hB77 := hB4.trans (hk7.mono hB4.size)
    have bX7 := bX4.below hk7 bX4.lt
    have N7 := HN4.out.below hk7
    rw [hw7] at b7 hB77 bX7 N7 ⊢
    rw [hB7] at b7 hne7 ⊢
    clear hw7 hB7 hk7 hB4 bX4 h4 HN4
    refine (rtext_arg s4 a4 n4 c4 (some z) w7 ⟨N7, k4⟩).mono ?_
    rintro e w8 ⟨rfl, h8⟩
    have hB8 := hB77.trans (h8.mono hB77.size)
    have bX8 := bX7.below h8 bX7.lt
    have b8 := b7.below h8 b7.lt
    have N8 := N7.below h8
    clear hB77 bX7 b7 N7 h8
    have HZ : Hid (txtO (some z) = txtZ z) := rfl
    rw [HZ.out]
    clear HZ
    have K := hide (no_store bX8 (Nat.le_refl _) hB8)
    have HQ := hide (And.intro (bX8.set (.bool s4) (.slice a4 n4 c4)) (And.intro (N8.set2 bX8 (.bool s4) (.slice a4 n4 c4) (f4.imp id fun h ad e => by have := h ad e; omega)) (below_set2 hB8 (B := w.heap.size) (Nat.le_refl _) (.bool s4) (.slice a4 n4 c4))))
    clear hB8 N8
    have HP0 := hide (fun (h : txtZ z = l) => HPR.out.trans (if_pos h))
    have HP1 := hide (fun (h : ¬ txtZ z = l) => HPR.out.trans (if_neg h))
    clear HPR
    obtain ⟨x0, x1, -, -⟩ := b8
    obtain ⟨r0, r1, z0, z1⟩ := bX8
    by_cases heq : txtZ z = l
    · have HPZ := hide (HP0.out heq)
      clear HP0 HP1
      rw [heq]
      clear heq
      go_wp2_with fail
      obtain ⟨⟨q0, q1, -, -⟩, hN, hBB⟩ := HQ.out
      refine bodyPost_ret (v := .tuple #[.agg #[.bool s4, .slice a4 n4 c4], .bool true]) (by simp [results, Tryz.results14, go_sem, q0, q1]) rfl ?_
      rw [HPZ.out]
      exact ⟨s4, a4, n4, c4, rfl, hN, k4, f4.imp id (fun h ad e => by have := h ad e; omega), hBB⟩
    · have HPZ := hide (HP1.out heq)
      have hne : ((⟨(txtZ z).toArray⟩ : ByteArray).toList == l) = false := by
       rw [bytes_toList]
       exact beq_eq_false_iff_ne.2 heq
      clear HP0 HP1
      obtain ⟨TZ, hTZ⟩ : ∃ TZ : ByteArray, (⟨(txtZ z).toArray⟩ : ByteArray) = TZ := ⟨_, rfl⟩
      rw [hTZ] at hne ⊢
      clear heq hTZ
      go_wp2_with fail
      obtain ⟨⟨q0, q1, -, -⟩, hBB⟩ := K.out
      exact bodyPost_ret (v := .tuple #[.agg #[.bool false, .slice none 0 0], .bool false]) (by simp [results, Tryz.results14, go_sem, q0, q1]) rfl (NoPost.opt ⟨rfl, hBB⟩ HPZ.out)
end Go.Proofs.YtgenaicmjddjcaaGreatDoor

