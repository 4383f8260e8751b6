/- Several texts in one. -/
import Derived.Lib.ItoaNum
import Derived.Lib.Repeat
import Derived.Lib.ParseIntB
import Derived.Test.YtgenaicmjddjcaaGreatDoorPText
import Derived.Test.YtgenaicmjddjcaaGreatDoorPAd
import Derived.Lib.Strings
/- Decimal digits as lists of bytes: parts of nine, the value they spell, their order. It speaks of no program. -/
namespace Go.Proofs.YtgenaicmjddjcaaGreatDoor
open Go.RowKit Go.Shelf

theorem dec_small {u : Nat} (h : u < 10) : Lib.decDigits u = [UInt8.ofNat (48 + u)] := by rw [Lib.decDigits, dif_pos h]
theorem dec_big {u : Nat} (h : ¬ u < 10) : Lib.decDigits u = Lib.decDigits (u / 10) ++ [UInt8.ofNat (48 + u % 10)] := by rw [Lib.decDigits, dif_neg h]
def pad : Nat → Nat → List UInt8
 | 0, _ => []
 | k + 1, r => pad k (r / 10) ++ [UInt8.ofNat (48 + r % 10)]
theorem pad_zero : ∀ k, pad k 0 = Lib.repeatL [48] k
 | 0 => rfl
 | k + 1 => by
   rw [pad, Nat.zero_div, pad_zero k, Lib.repeatL_add]
   rfl
theorem dec_split : ∀ (k u : Nat), u / 10 ^ k ≠ 0 → Lib.decDigits u = Lib.decDigits (u / 10 ^ k) ++ pad k (u % 10 ^ k)
 | 0, u, _ => by rw [Nat.pow_zero, Nat.div_one, pad, List.append_nil]
 | k + 1, u, h => by
   have hp : 0 < 10 ^ k := Nat.pow_pos (by decide)
   have hd : u / 10 ^ (k + 1) = u / 10 / 10 ^ k := by rw [Nat.pow_succ, Nat.mul_comm, Nat.div_div_eq_div_mul]
   rw [hd] at h ⊢
   have hu : ¬ u < 10 := fun hlt => h (by rw [Nat.div_eq_of_lt hlt, Nat.zero_div])
   rw [dec_big hu, dec_split k (u / 10) h, List.append_assoc]
   congr 1
   rw [pad]
   have h1 : u % 10 ^ (k + 1) / 10 = u / 10 % 10 ^ k := by
    rw [Nat.pow_succ, Nat.mul_comm]
    exact Nat.mod_mul_right_div_self u 10 (10 ^ k)
   have h2 : u % 10 ^ (k + 1) % 10 = u % 10 := by
    rw [Nat.pow_succ]
    exact Nat.mod_mul_left_mod u (10 ^ k) 10
   rw [h1, h2]
theorem pad_eq : ∀ (k r : Nat), r < 10 ^ (k + 1) → pad (k + 1) r = Lib.repeatL [48] (k + 1 - Lib.nDigits r) ++ Lib.decDigits r
 | k, r, h => by
   by_cases hr : r < 10
   · rw [pad, Nat.div_eq_of_lt hr, pad_zero, Lib.nDigits_small hr, dec_small hr, Nat.mod_eq_of_lt hr]
     rfl
   · match k, h with
     | 0, h => simp at h; omega
     | k + 1, h =>
       rw [pad, pad_eq k (r / 10) (by rw [Nat.pow_succ] at h; omega), Lib.nDigits_big hr, dec_big hr, List.append_assoc]
       congr 2
       omega
theorem dec_nine {u : Nat} (h : u / 1000000000 ≠ 0) : Lib.decDigits u = Lib.decDigits (u / 1000000000) ++ (Lib.repeatL [48] (9 - Lib.nDigits (u % 1000000000)) ++ Lib.decDigits (u % 1000000000)) := by
 have := dec_split 9 u (by simpa using h)
 rw [pad_eq 8 _ (Nat.mod_lt _ (by decide))] at this
 simpa using this
theorem txt_dec {V K : Nat} (hK : 0 < K) (hz : V / 1000000000 ^ K = 0) (hp : K = 1 ∨ V / 1000000000 ^ (K - 1) ≠ 0) : txt V K K = Lib.decDigits V := by
 have main : ∀ m, m < K → txt V K (m + 1) = Lib.decDigits (V / 1000000000 ^ (K - (m + 1))) := by
  intro m
  induction m with
  | zero =>
    intro hm
    rw [txt, txt, List.nil_append, Nat.zero_add]
    unfold piece
    rw [if_neg (by omega), List.nil_append]
    unfold grp
    have h1 : V / 1000000000 ^ (K - 1) / 1000000000 = 0 := by
     rw [Nat.div_div_eq_div_mul, ← Nat.pow_succ, show (K - 1).succ = K by omega]; exact hz
    rw [Nat.mod_eq_of_lt (by omega)]
  | succ m ih =>
    intro hm
    rw [txt, ih (by omega)]
    have hk1 : K ≠ 1 := by omega
    have hp' : V / 1000000000 ^ (K - 1) ≠ 0 := hp.resolve_left hk1
    have hq : V / 1000000000 ^ (K - (m + 1)) ≠ 0 := by
     intro h0
     apply hp'
     have hlt : V < 1000000000 ^ (K - (m + 1)) := (Nat.div_eq_zero_iff.1 h0).resolve_left (Nat.ne_of_gt (Nat.pow_pos (by decide)))
     exact Nat.div_eq_of_lt (Nat.lt_of_lt_of_le hlt (Nat.pow_le_pow_right (by decide) (by omega)))
    have he : V / 1000000000 ^ (K - (m + 1)) = V / 1000000000 ^ (K - (m + 1 + 1)) / 1000000000 := by
     rw [Nat.div_div_eq_div_mul, ← Nat.pow_succ, show (K - (m + 1 + 1)).succ = K - (m + 1) by omega]
    rw [he] at hq ⊢
    unfold piece
    rw [if_pos (by omega), dec_nine hq]
    rfl
 have := main (K - 1) (by omega)
 rw [show K - 1 + 1 = K by omega, Nat.sub_self, Nat.pow_zero, Nat.div_one] at this
 exact this

def isD (c : UInt8) : Prop := 48 ≤ c.toNat ∧ c.toNat ≤ 57
instance (c : UInt8) : Decidable (isD c) := inferInstanceAs (Decidable (_ ∧ _))
def dvA (a : Nat) (l : List UInt8) : Nat := l.foldl (fun a c => a * 10 + (c.toNat - 48)) a
def dv (l : List UInt8) : Nat := dvA 0 l
theorem dvA_cons (a : Nat) (c : UInt8) (r : List UInt8) : dvA a (c :: r) = dvA (a * 10 + (c.toNat - 48)) r := by unfold dvA; rw [List.foldl_cons]
theorem dvA_append (p q : List UInt8) (a : Nat) : dvA a (p ++ q) = dvA (dvA a p) q := by unfold dvA; rw [List.foldl_append]
theorem dvA_nil (a : Nat) : dvA a [] = a := by unfold dvA; rw [List.foldl_nil]
theorem dvA_eq (l : List UInt8) : ∀ a, dvA a l = a * 10 ^ l.length + dvA 0 l := by
 induction l with
 | nil => intro a; rw [dvA_nil, dvA_nil]; simp
 | cons c r ih =>
   intro a
   rw [dvA_cons, dvA_cons, ih (a * 10 + _), ih (0 * 10 + _), List.length_cons, Nat.pow_succ, Nat.add_mul, Nat.add_mul, Nat.mul_assoc, Nat.mul_comm (10 ^ r.length) 10]
   omega
theorem dv_one (c : UInt8) : dv [c] = c.toNat - 48 := by unfold dv; rw [dvA_cons, dvA_nil]; omega
theorem dv_append (p q : List UInt8) : dv (p ++ q) = dv p * 10 ^ q.length + dv q := by unfold dv; rw [dvA_append, dvA_eq q]
theorem dv_lt : ∀ (l : List UInt8), (∀ c ∈ l, isD c) → dv l < 10 ^ l.length
 | [], _ => by unfold dv; rw [dvA_nil]; simp
 | c :: r, h => by
   have h1 := h c (by simp)
   have h2 := dv_lt r fun x hx => h x (by simp [hx])
   have h3 := dv_append [c] r
   rw [List.singleton_append] at h3
   have h4 := dv_one c
   rw [h3, h4, List.length_cons, Nat.pow_succ]
   have h5 : (c.toNat - 48) * 10 ^ r.length ≤ 9 * 10 ^ r.length := Nat.mul_le_mul_right _ (by unfold isD at h1; omega)
   omega
theorem toNat_dig {u : Nat} (h : u < 10) : (UInt8.ofNat (48 + u)).toNat = 48 + u := by
 simp
 omega
theorem dec_head : ∀ (u : Nat), ∃ c r, Lib.decDigits u = c :: r ∧ isD c ∧ (u ≠ 0 → c.toNat ≠ 48) := by
 intro u
 induction u using Nat.strongRecOn with
 | _ u ih =>
   by_cases h : u < 10
   · rw [dec_small h]
     exact ⟨_, [], rfl, by unfold isD; rw [toNat_dig h]; omega, fun h0 => by rw [toNat_dig h]; omega⟩
   · obtain ⟨c, r, h1, h2, h3⟩ := ih (u / 10) (by omega)
     exact ⟨c, r ++ [UInt8.ofNat (48 + u % 10)], by rw [dec_big h, h1]; rfl, h2, fun _ => h3 (by omega)⟩
theorem parse_nine {l : List UInt8} (h0 : l ≠ []) (h9 : l.length ≤ 9) (hd : ∀ c ∈ l, isD c) : Lib.parseUintB 32 l = .ok (dv l) := by
 have main : ∀ (l : List UInt8) (a k : Nat), l.length ≤ k → k ≤ 9 → a * 10 ^ k + 10 ^ k ≤ 10 ^ 9 → (∀ c ∈ l, isD c) → Lib.parseUintM 4294967295 a l = .ok (dvA a l) := by
  intro l
  induction l with
  | nil => intro a k _ _ _ _; rw [dvA_nil]; rfl
  | cons c r ih =>
    intro a k hk hk9 ha hd
    obtain ⟨k, rfl⟩ : ∃ j, k = j + 1 := ⟨k - 1, by simp at hk; omega⟩
    have hc := hd c (by simp)
    have hp : 0 < 10 ^ k := Nat.pow_pos (by decide)
    rw [Nat.pow_succ] at ha
    have h1 : (a * 10 + 9) * 10 ^ k + 10 ^ k ≤ 10 ^ 9 := by
     rw [Nat.add_mul, Nat.mul_assoc, Nat.mul_comm 10 (10 ^ k)]; omega
    have h2 : a * 10 + 9 < 10 ^ 9 := by
     have : (a * 10 + 9) * 1 ≤ (a * 10 + 9) * 10 ^ k := Nat.mul_le_mul_left _ hp
     omega
    unfold isD at hc
    have h3 : (a * 10 + (c.toNat - 48)) * 10 ^ k ≤ (a * 10 + 9) * 10 ^ k := Nat.mul_le_mul_right _ (by omega)
    rw [Lib.parseUintM, if_pos hc, if_neg (by omega), if_neg (by omega), ih _ k (by simp at hk; omega) (by omega) (by omega) fun x hx => hd x (by simp [hx]), dvA_cons]
 unfold Lib.parseUintB
 rw [if_neg h0]
 exact main l 0 9 h9 (Nat.le_refl _) (by decide) hd
end Go.Proofs.YtgenaicmjddjcaaGreatDoor

/- num's Text of any right Num, 0 too. -/
namespace Go.Proofs.YtgenaicmjddjcaaGreatDoor
open Go.RowKit Go.Shelf

set_option maxRecDepth 100000 in
set_option maxHeartbeats 1000000 in
theorem resize_lt (a : Option Addr) (L cap n : Nat) (z : Int) (hz : z = (n : Int)) (f : Nat → Nat) (hL : L ≤ n) (hn : n ≤ 1099511627776) (w : World) (hd : Dig w a L f) :
 Calls Tryz.prog 110 #[.slice a L cap, .int .i64 z] w fun e w' => ∃ g : Nat, e = .returned (.slice (some ⟨g, 0, none⟩) n n) ∧ w.heap.size ≤ g ∧
  Cells w' g 0 n (mixF f (fun _ => 0) L) ∧ Free w' g 0 n ∧ g < w'.heap.size ∧ Below w.heap.size w w' := by
 subst hz
 obtain ⟨i0, hi, hz0, hz1, hz2⟩ := info_parts info_u32
 have hb : i0.bytes * n ≤ 281474976710656 := by rw [hz2]; omega
 have HB : Hid (i0.bytes * n ≤ 281474976710656) := hb
 have HI : Hid (Tryz.prog.info? 68 = some i0) := hi
 have HZ : Hid (i0.zero = some (.int .u32 0) ∧ i0.size = 1) := ⟨hz0, hz1⟩
 clear hb hi hz0 hz1 hz2
 have hg : (w.alloc (.cells (madeCells #[.int .u32 0] n) 68)).heap[w.heap.size]? = some (.cells (digVals (fun _ => 0) n).toArray 68 (0, 0)) := by
  rw [madeCells_digs]; exact World.alloc_heap_new w _
 have HG := hide hg
 have HC : Hid (∀ (B : World), Below w.heap.size w B → 0 < (digVals f L).length → some (Addr.mk w.heap.size 0 none) = some ⟨w.heap.size, 0, none⟩ ∧ ∃ ad, a = some ad ∧ ∀ j v, (digVals f L)[j]? = some v → B.cell? (ad.add j) = some v) := by
  intro B hB h0
  rw [digVals_length] at h0
  obtain ⟨b, off, rfl, hc⟩ := hd.at h0
  refine ⟨rfl, _, rfl, fun j v hv => ?_⟩
  have hj : j < L := by
   rcases Nat.lt_or_ge j L with h | h
   · exact h
   · rw [List.getElem?_eq_none (by rw [digVals_length]; exact h)] at hv; cases hv
  rw [digVals_get f hj] at hv; cases hv
  have := hc.below hB (.inl (Nat.le_refl _)) j hj
  unfold Addr.add; split
  · rename_i h; subst h; exact this
  · exact this
 have HA : Hid (Below w.heap.size w (w.alloc (.cells (madeCells #[.int .u32 0] n) 68))) := (Below.refl _ w).alloc (Nat.le_refl _) _
 clear hg
 go_enter Tryz.func110, Tryz.ntmps110
 go_wp2_with (first | (at_make; refine wpList_make_row _ rfl _ _ 23 rfl 68 i0 (.int .u32 0) Tryz.underlying23 HI.out HZ.out.1 HZ.out.2 rfl _ _ n rfl rfl HB.out (by omega) ?_) | (with_reducible refine wpList_copy_splice rfl (.tmp 8) (.tmp 9) 23 23 rfl 68 Tryz.underlying23 size_u32 _ _ _ _ _ _ rfl rfl w.heap.size 0 (digVals (fun _ => 0) n) 68 HG.out (digVals f L) (by rw [digVals_length]; exact (Nat.min_eq_left hL).symm) (HC.out _ HA.out) (by rw [digVals_length, digVals_length]; omega) (digVals_one f L) w.heap.size w HA.out (Nat.le_refl _) ?_))
 intro w2 hw2 hb2
 go_wp2
 go_ret
 have h3 := hw2.out
 rw [splice_digVals _ _ _ _ hL] at h3
 obtain ⟨h4, h5⟩ := cells_of_heap h3
 exact ⟨_, rfl, Nat.le_refl _, h4, h5, (Array.getElem?_eq_some_iff.1 h3).1, hb2⟩

set_option maxRecDepth 100000 in
set_option maxHeartbeats 4000000 in
theorem groups_all (a : Option Addr) (n cap V : Nat) (hn : n ≤ 64) (w : World) (hd : IsD w a n V) :
 Calls Tryz.prog 65 #[.slice a n cap] w (GroupsPost w V) := by
 obtain ⟨i0, hi, hz0, hz1, hz2⟩ := info_parts info_u32
 have hV : V < bp n := by rw [hd.len]; exact lt_bp_dlen V
 have HI := hide hi
 have HZ := hide (And.intro hz0 (And.intro hz1 hz2))
 have HV := hide hV
 clear hi hz0 hz1 hz2 hV
 go_enter Tryz.func65, Tryz.ntmps65
 go_wp2_with fail
 refine (resize_lt a n cap n _ rfl (dgt V) (Nat.le_refl _) (by omega) w hd.dig).mono ?_
 rintro e w1 ⟨g, rfl, hg, hc1, hf1, hgl, hb1⟩
 go_wp2_with fail
 refine (shorten_any g 0 n n V 1000000000 (by decide) (by decide) (by omega) HV.out w1 hgl (hc1.congr fun j hj => by simp [mixF, hj]) hf1).mono ?_
 rintro e w2 ⟨rfl, hc2, ht2⟩
 have hB2 := hb1.trans (ht2.below hg hb1.size)
 have hf2 := hf1.touch ht2 hgl
 have hgl2 : g < w2.heap.size := Nat.lt_of_lt_of_le hgl ht2.size
 obtain ⟨r, hr⟩ : ∃ r, V % 1000000000 = r := ⟨_, rfl⟩
 rw [hr]
 have HR := hide hr
 clear hr hc1 ht2
 go_wp2_with fail
 have hv1 : valF (dgt (V / 1000000000)) n = V / 1000000000 := by
  rw [valF_dgt]; exact Nat.mod_eq_of_lt (Nat.lt_of_le_of_lt (Nat.div_le_self _ _) HV.out)
 obtain ⟨W3, hW3⟩ : ∃ W3, w2.alloc (Obj.cells #[.int .u32 (r : Int)] 68) = W3 := ⟨_, rfl⟩
 have ho3 : W3.ownsRow w2.heap.size 68 1 (.slice (some ⟨w2.heap.size, 0, none⟩) 1 1) 1 (grpVals V 1) := by
  rw [← hW3]
  refine ⟨rfl, .inr ⟨w2.heap.size, 1, #[.int .u32 (r : Int)], rfl, Nat.le_refl _, heap_alloc_new w2 _, Nat.le_refl _, by unfold maxLen; omega, rfl, ?_⟩⟩
  have hr := HR.out
  simp [grpVals, grp]
  omega
 have hb3 : Below w2.heap.size w2 W3 := by rw [← hW3]; exact (Below.refl _ w2).alloc (Nat.le_refl _) _
 have hB3 := hB2.trans (hb3.mono hB2.size)
 have hs3 := hb3.size
 rw [hW3]
 have hc3 := hc2.below hb3 (.inr hgl2)
 have hf3 := hf2.below hb3 hgl2
 have hcall := trim_any (some ⟨g, 0, none⟩) n n (dgt (V / 1000000000)) (by omega) (Nat.le_refl _) (fun _ _ => dgt_lt _ _) W3 (.inr ⟨g, 0, rfl, hc3⟩)
 rw [hv1] at hcall
 have HO := hide ho3
 clear hW3 hv1 ho3 hc2 hf2
 refine hcall.mono ?_
 clear hcall
 rintro e w4 ⟨a4, c4, rfl, ha4, hcap4, hb4⟩
 have hB4 := hB3.trans (hb4.mono hB3.size)
 have hs4 := hb4.size
 have ho4 : w4.ownsRow w2.heap.size 68 1 (.slice (some ⟨w2.heap.size, 0, none⟩) 1 1) 1 (grpVals V 1) := HO.out.kept (grown_of_below hb4) (by simp [Value.ownBlock])
 have hln : dlen (V / 1000000000) ≤ n := dlen_le_iff.2 (Nat.lt_of_le_of_lt (Nat.div_le_self _ _) HV.out)
 have hc4 : Cells w4 g 0 (dlen (V / 1000000000 ^ 1)) (dgt (V / 1000000000 ^ 1)) := by rw [Nat.pow_one]; exact (hc3.below hb4 (.inr (by omega))).mono hln
 have hf4 : Free w4 g 0 (dlen (V / 1000000000 ^ 1)) := by rw [Nat.pow_one]; exact fun j hj => (hf3.below hb4 (by omega)) j (by omega)
 have hgl4 : g < w4.heap.size := by omega
 have HO4 := hide ho4
 have HC4 := hide (And.intro hc4 hf4)
 clear ho4 hc4 hf4 hc3 hf3 HO
 go_wp2_with fail
 go_loopw [3, 4] (fun lv gv wr => ∃ (k : Nat) (la : Option Addr) (lc : Nat), 0 < k ∧ k ≤ 2048 ∧ lv = .slice la (dlen (V / 1000000000 ^ k)) lc ∧ (la = some ⟨g, 0, none⟩ ∨ dlen (V / 1000000000 ^ k) = 0) ∧ dlen (V / 1000000000 ^ k) ≤ lc ∧
  dlen (V / 1000000000 ^ k) ≤ n ∧ Cells wr g 0 (dlen (V / 1000000000 ^ k)) (dgt (V / 1000000000 ^ k)) ∧ Free wr g 0 (dlen (V / 1000000000 ^ k)) ∧ w2.heap.size ≤ wr.heap.size ∧
  wr.ownsRow w2.heap.size 68 1 gv k (grpVals V k) ∧ (k = 1 ∨ V / 1000000000 ^ (k - 1) ≠ 0) ∧ Below w.heap.size w wr)
  (fun _ gv _ => 4096 - sliceLen gv)
 case atStart =>
  exact ⟨1, a4, c4, by decide, by decide, by rw [Nat.pow_one], by rw [Nat.pow_one]; exact ha4, by rw [Nat.pow_one]; exact hcap4, by rw [Nat.pow_one]; exact hln, HC4.out.1, HC4.out.2, by omega, HO4.out, .inl rfl, hB4⟩
 case round =>
  obtain ⟨k, la, lc, hk0, hk, rfl, hla, hlc, hlk, hcx, hfx, hsx, hox, hkx, hBx⟩ := hrel
  obtain ⟨q, hq⟩ : ∃ q, V / 1000000000 ^ k = q := ⟨_, rfl⟩
  rw [hq] at hla hlc hlk hcx hfx ⊢
  by_cases h0 : q = 0
  · subst h0
    rw [dlen_zero] at hla hlc hlk hcx hfx ⊢
    have HQ := hide (And.intro hq hkx)
    have HO := hide hox
    clear hq hkx hox
    obtain ⟨g', c', rfl, hg', hcg, hob⟩ := owns_cells HO.out hk0
    have HOB := hide hob
    clear hob
    go_wp2_with fail
    go_ret
    exact ⟨g', k, c', rfl, hk0, hk, HQ.out.1, HQ.out.2, hcg, Nat.le_trans hB2.size hg', HOB.out, hBx⟩
  · have hkb := grp_bound HV.out (by rw [hq]; exact h0)
    have hl0 : 0 < dlen q := Nat.pos_of_ne_zero fun e => h0 (dlen_eq_zero.1 e)
    obtain ⟨l, hl⟩ : ∃ l, dlen q = l := ⟨_, rfl⟩
    rw [hl] at hla hlc hlk hcx hfx hl0 ⊢
    have hql : q < bp l := by rw [← hl]; exact lt_bp_dlen q
    obtain rfl : la = some ⟨g, 0, none⟩ := by rcases hla with h | h; exact h; omega
    have HQ := hide (And.intro hq (And.intro hl (And.intro h0 hkx)))
    have HO := hide hox
    have hcall := shorten_any g 0 l lc q 1000000000 (by decide) (by decide) (by omega) hql wr (hcx.lt hl0) hcx hfx
    have hglr := hcx.lt hl0
    have HS := hide hcall
    have HL := hide hql
    have HX := hide (And.intro hcx hfx)
    clear hq hkx hox hcall hql h0 hl hcx hfx
    go_wp2_with fail
    refine HS.out.mono ?_
    rintro e w5 ⟨rfl, hc5, ht5⟩
    obtain ⟨r5, hr5⟩ : ∃ r5, q % 1000000000 = r5 := ⟨_, rfl⟩
    rw [hr5]
    have HR5 := hide hr5
    have hgl5 := hc5.lt hl0
    have hf5 := HX.out.2.touch ht5 hglr
    have hs5 := ht5.size
    have hBx5 := hBx.trans (ht5.below hg hBx.size)
    have ho5 := HO.out.kept ht5.grown (.inr fun e => by have := (HO.out.lt g e).1; omega)
    have HC5 := hide (And.intro hc5 hf5)
    have HO5 := hide ho5
    clear hr5 hc5 hf5 ho5 ht5
    go_wp2_with (at_builtin; refine wpList_append_own _ rfl _ _ 23 rfl w2.heap.size 68 i0 (.int .u32 0) 1 4 Tryz.underlying23 HI.out HZ.out.1 HZ.out.2.1 HZ.out.2.2 rfl (by decide) _ _ _ rfl (HO5.out.alloc _) ⟨w5.heap.size, 0, none⟩ 1 1 [.int .u32 (r5 : Int)] rfl rfl ?c1 ?c2 ?c3 ?c4 ?c5 ?_)
    case c1 =>
     intro j u hj
     match j, hj with
     | 0, hj => simp at hj; subst hj; simp [Addr.add]
    case c2 => intro u hu; simp at hu; subst hu; rfl
    case c3 => unfold maxLen; omega
    case c4 => omega
    case c5 => simp; omega
    intro v' w6 hown6 hgrow _
    have hs6 : w5.heap.size + 1 ≤ w6.heap.size := by have := hgrow.size; rw [World.size_alloc] at this; exact this
    have hbg : w6.heap[g]? = w5.heap[g]? := by
     rw [hgrow.block g (by rw [World.size_alloc]; omega) (fun e => by have := (HO5.out.lt g e.symm).1; omega), heap_before _ _ _ hgl5]
    have hc6 : Cells w6 g 0 l (dgt (q / 1000000000)) := fun j hj => by rw [cell_of_block_eq hbg]; exact HC5.out.1 j hj
    have hf6 : Free w6 g 0 l := fun j hj => by rw [frozen_of_block_eq hbg]; exact HC5.out.2 j hj
    have hB6 : Below w.heap.size w w6 := (hBx5.alloc hBx5.size _).grown hgrow (by rw [World.size_alloc]; have := hBx5.size; omega) (fun k' hk' => Nat.le_trans hB2.size (HO5.out.lt k' hk').1)
    have hqv : valF (dgt (q / 1000000000)) l = q / 1000000000 := by
     rw [valF_dgt]; exact Nat.mod_eq_of_lt (Nat.lt_of_le_of_lt (Nat.div_le_self _ _) HL.out)
    have hcall := trim_any (some ⟨g, 0, none⟩) l lc (dgt (q / 1000000000)) (by omega) hlc (fun _ _ => dgt_lt _ _) w6 (.inr ⟨g, 0, rfl, hc6⟩)
    rw [hqv] at hcall
    have HT := hide hcall
    have HO6 := hide hown6
    have HC6 := hide (And.intro hc6 hf6)
    clear hcall hown6 hc6 hf6 hqv hbg hgrow
    go_wp2_with fail
    refine HT.out.mono ?_
    rintro e w7 ⟨a7, c7, rfl, ha7, hcap7, hb7⟩
    have hs7 := hb7.size
    have ho7 := HO6.out.kept (grown_of_below hb7) (by cases v'.ownBlock <;> simp)
    have hll : dlen (q / 1000000000) ≤ l := dlen_le_iff.2 (Nat.lt_of_le_of_lt (Nat.div_le_self _ _) HL.out)
    have hc7 := (HC6.out.1.below hb7 (.inr (by omega))).mono hll
    have hf7 : Free w7 g 0 (dlen (q / 1000000000)) := fun j hj => (HC6.out.2.below hb7 (by omega)) j (by omega)
    have hB7 := hB6.trans (hb7.mono hB6.size)
    have HO7 := hide ho7
    have HC7 := hide (And.intro hc7 hf7)
    have HA7 := hide ha7
    clear ho7 hc7 hf7 ha7
    obtain ⟨g', cg, hv'⟩ : ∃ g' cg, v' = .slice (some ⟨g', 0, none⟩) (k + 1) cg := by
     rcases HO7.out.2 with ⟨_, h0⟩ | ⟨g', cap', cur', hv, _⟩
     · omega
     · exact ⟨g', cap', hv⟩
    obtain ⟨gu, cu, hu4⟩ : ∃ gu cu, u4 = .slice (some ⟨gu, 0, none⟩) k cu := by
     rcases HO.out.2 with ⟨_, h0⟩ | ⟨g', cap', cur', hv, _⟩
     · omega
     · exact ⟨g', cap', hv⟩
    have HV' := hide hv'
    have HU4 := hide hu4
    clear hv' hu4
    go_wp2_with fail
    go_roundw
    case rel =>
     have hn := grp_next V k
     rw [HQ.out.1] at hn
     refine ⟨k + 1, a7, c7, by omega, by omega, by rw [hn], by rw [hn]; exact HA7.out, by rw [hn]; exact hcap7, by rw [hn]; omega, by rw [hn]; exact HC7.out.1, by rw [hn]; exact HC7.out.2, by omega, ?_, .inr ?_, hB7⟩
     · rw [grpVals_succ, show grp V k = r5 by unfold grp; rw [HQ.out.1]; exact HR5.out]; exact HO7.out
     · rw [Nat.add_sub_cancel, HQ.out.1]; exact HQ.out.2.2.1
    case measure => simp [HV'.out, HU4.out, sliceLen]; omega

attribute [local go_sem] Oper.semAt_some
set_option maxRecDepth 100000 in
set_option maxHeartbeats 8000000 in
theorem text_all (a : Option Addr) (n cap : Nat) (z : Int) (hn : n ≤ 64) (w : World) (ht : Pow10 w) (h : IsN w false a n z) :
 Calls Tryz.prog 12 #[.agg #[.bool false, .slice a n cap]] w (TextPost w [] z.natAbs) := by
 refine calls_marks Tryz.func12 rfl ?_
 simp only [Tryz.ntmps12, List.size_toArray, List.length_cons, List.length_nil, Nat.reduceAdd, Nat.reduceSub, Array.replicate_succ, Array.replicate_zero, List.push_toArray, List.append_toArray, List.nil_append, List.cons_append]
 go_wp2_with fail
 obtain ⟨W0, hW0⟩ : ∃ W0, w.alloc (Obj.cells #[.bool false, .slice a n cap] 25) = W0 := ⟨_, rfl⟩
 have bA : Box2 W0 w.heap.size (.bool false) (.slice a n cap) := by rw [← hW0]; exact Box2.new w _ _ _
 have hB0 : Below w.heap.size w W0 := by rw [← hW0]; exact (Below.refl _ w).alloc (Nat.le_refl _) _
 rw [hW0]
 clear hW0
 refine (right_yes false a n cap z hn _ (h.below hB0)).mono ?_
 rintro e w1 ⟨rfl, hb1⟩
 have hB1 := hB0.trans (hb1.mono hB0.size)
 have bA1 := bA.below hb1 bA.lt
 have bA1k := bA1
 have hlt1 := bA1.lt
 obtain ⟨a0, a1, -, -⟩ := bA1
 go_wp2_with fail
 obtain ⟨W2, hW2⟩ : ∃ W2, w1.alloc (Obj.cells #[.pointer none, .slice none 0 0] 83) = W2 := ⟨_, rfl⟩
 have hb2 : Below w1.heap.size w1 W2 := by rw [← hW2]; exact (Below.refl _ w1).alloc (Nat.le_refl _) _
 have hbl2 : Lib.IsBuilderF 83 5 w1.heap.size w1.heap.size (Lib.byteCells []) W2 := by
  rw [← hW2]; exact .inl ⟨Nat.le_refl _, .slice none 0 0, heap_alloc_new w1 _, World.ownsRowF_nil _ _ _ _, by simp [Value.ownBlock]⟩
 have hs2 : W2.heap.size = w1.heap.size + 1 := by rw [← hW2]; exact World.size_alloc _ _
 have hB2 := hB1.trans (hb2.mono hB1.size)
 rw [hW2]
 clear hW2 a0 a1
 have bA2 := bA1k.below hb2 hlt1
 have bA2k := bA2
 have hbl3 := hbl2
 have hB3 := hB2
 have hs3 : w1.heap.size + 1 ≤ W2.heap.size := by omega
 have hd2 : IsD W2 a n z.natAbs := h.dig.below hB2
 refine (groups_all a n cap z.natAbs hn W2 hd2).mono ?_
 rintro e w3 ⟨g, K, c3, rfl, hK0, hK, hKz, hKp, hc3, hg3, hob3, hb3⟩
 have hB4 := hB2.trans (hb3.mono hB2.size)
 have hbl4 := (Stays.of_below hb3).builder hbl2
 have hs4 := hb3.size
 have HK := hide (And.intro hKz hKp)
 have HOB := hide hob3
 have HC3 := hide hc3
 clear hKz hKp hob3 hc3 hd2
 go_wp2_with (go_at_call 66; refine (backward_any _ _ _ _).mono ?_; rintro e w' ⟨rfl, rfl⟩)
 obtain ⟨W5, hW5⟩ : ∃ W5, (w3.alloc (Obj.cells #[.slice (some ⟨g, 0, none⟩) K c3] 23)).alloc (Obj.cells #[.slice (some ⟨g, 0, none⟩) K c3] 23) = W5 := ⟨_, rfl⟩
 have hb5 : Below w3.heap.size w3 W5 := by rw [← hW5]; exact ((Below.refl _ w3).alloc (Nat.le_refl _) _).alloc (by simp) _
 have o4 : W5.heap[w3.heap.size]? = some (.cells #[.slice (some ⟨g, 0, none⟩) K c3] 23 (0, 0)) := by
  rw [← hW5, heap_before _ _ _ (by simp)]; exact heap_alloc_new w3 _
 have o5 : W5.heap[w3.heap.size + 1]? = some (.cells #[.slice (some ⟨g, 0, none⟩) K c3] 23 (0, 0)) := by
  have := heap_alloc_new (w3.alloc (Obj.cells #[.slice (some ⟨g, 0, none⟩) K c3] 23)) (Obj.cells #[.slice (some ⟨g, 0, none⟩) K c3] 23)
  rw [World.size_alloc] at this; rw [← hW5]; exact this
 have hs5 : W5.heap.size = w3.heap.size + 2 := by rw [← hW5]; simp
 have c4 : W5.cell? ⟨w3.heap.size, 0, none⟩ = some (.slice (some ⟨g, 0, none⟩) K c3) := by rw [Lib.cell_of_heap o4]; rfl
 have c5 : W5.cell? ⟨w3.heap.size + 1, 0, none⟩ = some (.slice (some ⟨g, 0, none⟩) K c3) := by rw [Lib.cell_of_heap o5]; rfl
 rw [hW5]
 clear hW5
 have hglt : g < w3.heap.size := HC3.out.lt hK0
 obtain ⟨cur, fz, hob⟩ := HOB.out
 have hob5 : W5.heap[g]? = some (.cells cur 68 fz) := (hb5.block g hglt).trans hob
 have hc5 : Cells W5 g 0 K (grp z.natAbs) := HC3.out.below hb5 (.inr hglt)
 have hB5 := hB4.trans (hb5.mono hB4.size)
 have hbl5 := (Stays.of_below hb5).builder hbl4
 have hpow5 : Pow10 W5 := ht.below hB5
 obtain ⟨V, hV⟩ : ∃ V, z.natAbs = V := ⟨_, rfl⟩
 rw [hV] at HK hc5 ⊢
 have HC5 := hide hc5
 have HO := hide (And.intro o4 (And.intro o5 hob5))
 have HPW := hide hpow5
 have HCC := hide (And.intro c4 c5)
 have HBL := hide hbl5
 have HV := hide hV
 clear hc5 o4 o5 hob5 hob hpow5 c4 c5 hbl5 hbl4 hbl2 hV
 have hmx : Tryz.prog.follows .mixedOrders = true := by kernel_rfl
 refine wp_backW (w3.heap.size + 1) (some ⟨g, 0, none⟩) K c3 (by omega) rfl rfl
  (fun k W => Lib.OthersKept 5 (some w1.heap.size) W5 W ∧ Lib.IsBuilderF 83 5 w1.heap.size w1.heap.size (Lib.byteCells ([] ++ txt V K (K - k))) W ∧ Below w.heap.size w W ∧ W5.heap.size ≤ W.heap.size)
  (fun _ _ => False)
  ?hI ?hIx (fun k W h => (kept_cell h.1 HO.out.2.1 (by decide) (by omega) 0).trans HCC.out.2) ⟨Lib.OthersKept.refl _ _ _, by rw [Nat.sub_self]; simpa [txt] using HBL.out, hB5, Nat.le_refl _⟩
  (fun k v => { tmps := #[.agg #[.bool false, .slice a n cap], .pointer (some ⟨w.heap.size, 0, none⟩), .string ⟨#[]⟩, .pointer (some ⟨w1.heap.size, 0, none⟩), .pointer (some ⟨w3.heap.size, 0, none⟩), .int .i64 (k : Int), .int .u32 v, undef, .agg #[.bool false, .slice a n cap], .bool true, .bool false,
    .pointer (some ⟨w.heap.size, 0, none⟩), .bool false, undef, .pointer (some ⟨w.heap.size, 1, none⟩), .slice a n cap, .slice (some ⟨g, 0, none⟩) K c3, .slice (some ⟨g, 0, none⟩) K c3, .func (.func 113) #[] #[.pointer (some ⟨w3.heap.size + 1, 0, none⟩)], .int .i64 (k : Int), .int .u32 v,
    undef, undef, undef, undef, undef, undef, undef, undef, undef, undef, undef, undef, undef, undef, undef, undef], defers := [] })
  ?hcell ?assign ?body ?done ?stop
 case hI =>
  intro s W W' row hs hg hr
  obtain ⟨h1, h2, h3, h4⟩ := hs
  have hst : Stays W W' := fun k o hk ho => by
   rw [hg.block k (Array.getElem?_eq_some_iff.1 hk).1 (fun e => by obtain ⟨-, o', ho', hc'⟩ := hr k e.symm; rw [hk] at ho'; cases ho'; rw [ho] at hc'; cases hc')]; exact hk
  have hbw : Below W5.heap.size W W' := (Below.refl _ W).grown hg h4 (fun k e => (hr k e).1)
  refine ⟨fun k o hk hkb ho => ?_, hst.builder h2, h3.trans (hbw.mono hB5.size), Nat.le_trans h4 hbw.size⟩
  rw [hbw.block k (Array.getElem?_eq_some_iff.1 hk).1]; exact h1 k o hk hkb ho
 case hIx => exact fun _ _ _ _ h _ _ => h
 case hcell =>
  rintro k W hk ⟨h1, _, _, _⟩
  refine ⟨g, 0, _, rfl, (kept_cell h1 HO.out.2.2 (by decide) (by omega) _).trans (HC5.out k hk)⟩
 case assign =>
  intro l k v W K' hK'
  gi_wp2
  exact hK'
 case body =>
  rintro l k v b' off' W hk ⟨h1, h2, h3, h4⟩ ha hcv
  cases ha
  obtain ⟨d, hd⟩ : ∃ d, grp V k = d := ⟨_, rfl⟩
  obtain rfl : v = ((d : Nat) : Int) := by
   have := (kept_cell h1 HO.out.2.2 (by decide) (by omega) (0 + k)).trans (HC5.out k hk)
   rw [hcv, hd] at this; cases this; rfl
  have hd9 : d < 1000000000 := by rw [← hd]; exact grp_lt V k
  have hpw : Pow10 W := ht.below h3
  obtain ⟨part, hpart⟩ : ∃ part : ByteArray, (⟨(Lib.decDigits d).toArray⟩ : ByteArray) = part := ⟨_, rfl⟩
  have hps : part.size = Lib.nDigits d := by rw [← hpart]; show (Lib.decDigits d).toArray.size = _; rw [List.size_toArray, Lib.decDigits_length]
  have hp9 : part.size ≤ 9 := by rw [hps, ← hd]; exact grp_nd V k
  have hfu := formatUint_any d (by omega) W hpw
  rw [hpart] at hfu
  have HFU := hide hfu
  have HP := hide (And.intro hpart (And.intro hps hd))
  have h2k := hide h2
  have HH1 := hide h1
  have htl := txt_len V K (K - (k + 1))
  have hk2 : (k : Int) < K := by omega
  clear hfu hpart hd hps h2 h1 hpw hcv
  by_cases hlast : k + 1 < K
  · have hl2 : (k : Int) < (K : Int) - 1 := by omega
    gi_wp2_with fail
    refine ⟨trivial, ?_⟩
    gi_at_call 67
    refine (CallsIn.inRound l (callsIn_wide.2 HFU.out)).mono ?_
    rintro e W1 ⟨rfl, hbf⟩
    have h1f := kept_below HH1.out hbf
    have c4f := (kept_cell h1f HO.out.1 (by decide) (by omega) 0).trans HCC.out.1
    have hsf := hbf.size
    gi_wp2_with fail
    refine ⟨trivial, ?_⟩
    gi_at_call 69
    refine (CallsIn.inRound l (callsIn_wide.2 (Tryz.repeat_int _ _ (9 - part.size) (by omega) _ (by omega) (by show 1 * _ ≤ _; omega)))).mono ?_
    rintro e Wb ⟨rfl, hbr⟩
    have h2r := (Stays.of_below hbr).builder ((Stays.of_below hbf).builder h2k)
    have hsr := hbr.size
    have hln1 : (Lib.byteCells ([] ++ txt V K (K - (k + 1)))).length ≤ 9 * (K - (k + 1)) + 1 := by rw [Lib.byteCells_length, List.length_append]; simp <;> omega
    have hln2 : (⟨(Lib.repeatL [48] (9 - part.size)).toArray⟩ : ByteArray).size ≤ 9 := by show (Lib.repeatL [48] (9 - part.size)).toArray.size ≤ 9; rw [List.size_toArray, Lib.repeatL_length]; simp <;> omega
    gi_wp2_with fail
    refine ⟨trivial, ?_⟩
    gi_at_call 68
    refine (CallsIn.inRound l (callsIn_wide.2 (Tryz.write_string_k w1.heap.size w1.heap.size _ _ Wb h2r (by show _ + _ ≤ _; omega) (by omega)))).mono ?_
    rintro e Wc ⟨rfl, hbw, hBw, hkw⟩
    have hsw := hBw.size
    gi_wp2_with fail
    refine ⟨trivial, ?_⟩
    gi_at_call 68
    refine (CallsIn.inRound l (callsIn_wide.2 (Tryz.write_string_k w1.heap.size w1.heap.size _ part Wc (.inr hbw) (by rw [List.length_append, Lib.strCells_length]; omega) (by omega)))).mono ?_
    rintro e Wd ⟨rfl, hbx, hBx, hkx⟩
    gi_wp2
    have hkk : Lib.OthersKept 5 (some w1.heap.size) W Wd := ((kept_below (kept_below (Lib.OthersKept.refl _ _ _) hbf) hbr).trans hkw).trans hkx
    have hsd : W.heap.size ≤ Wd.heap.size := by have := hBx.size; omega
    refine ⟨kept_from hkk (by omega) hsd, HH1.out.trans hkk, .inr ?_, (((h3.trans (hbf.mono (by omega))).trans (hbr.mono (by omega))).trans (hBw.mono (by omega))).trans (hBx.mono (by omega)), by omega⟩
    rw [text_step [] V K k hk d HP.out.2.2 part HP.out.1 HP.out.2.1, if_pos hlast]
    exact hbx
  · have hl2 : ¬ (k : Int) < (K : Int) - 1 := by omega
    gi_wp2_with fail
    refine ⟨trivial, ?_⟩
    gi_at_call 67
    refine (CallsIn.inRound l (callsIn_wide.2 HFU.out)).mono ?_
    rintro e W1 ⟨rfl, hbf⟩
    have h1f := kept_below HH1.out hbf
    have c4f := (kept_cell h1f HO.out.1 (by decide) (by omega) 0).trans HCC.out.1
    have hsf := hbf.size
    have h2r := (Stays.of_below hbf).builder h2k
    have hln1 : (Lib.byteCells ([] ++ txt V K (K - (k + 1)))).length ≤ 9 * (K - (k + 1)) + 1 := by rw [Lib.byteCells_length, List.length_append]; simp <;> omega
    gi_wp2_with fail
    refine ⟨trivial, ?_⟩
    gi_at_call 68
    refine (CallsIn.inRound l (callsIn_wide.2 (Tryz.write_string_k w1.heap.size w1.heap.size _ part W1 h2r (by omega) (by omega)))).mono ?_
    rintro e Wd ⟨rfl, hbx, hBx, hkx⟩
    gi_wp2
    have hkk : Lib.OthersKept 5 (some w1.heap.size) W Wd := (kept_below (Lib.OthersKept.refl _ _ _) hbf).trans hkx
    have hsd : W.heap.size ≤ Wd.heap.size := by have := hBx.size; omega
    refine ⟨kept_from hkk (by omega) hsd, HH1.out.trans hkk, .inr ?_, (h3.trans (hbf.mono (by omega))).trans (hBx.mono (by omega)), by omega⟩
    rw [text_step [] V K k hk d HP.out.2.2 part HP.out.1 HP.out.2.1, if_neg hlast, List.append_nil]
    exact hbx
 case done =>
  rintro D W hD ⟨h1, h2, h3, h4⟩ hK
  rw [Nat.sub_zero] at h2
  have HK1 := hide hK
  have HP1 := hide h1
  clear hK h1
  go_wp2_with fail
  refine (Tryz.Builder_String_any_k w1.heap.size w1.heap.size ([] ++ txt V K K) W h2 (by omega)).mono ?_
  rintro e W' ⟨rfl, -, hBs, hks⟩
  have hK' : W'.heap[D]? = some (.deferred (some [])) := hks D _ HK1.out (fun e => by cases e; omega) (fun c f e => by cases e)
  go_wp2
  have hc := calm_put (.deferred none) hD hK' rfl
  exact leavesM_one hK' ⟨_, results_tmp rfl _ _ _, ⟨K, hK0, by rw [HV.out]; exact HK.out.1, by rw [HV.out]; exact HK.out.2, by rw [HV.out]; rfl, (h3.trans (hBs.mono (by omega))).trans (hc.below.mono (by omega))⟩⟩
 case stop => exact fun _ _ _ _ h _ => h.elim



def txtZ (z : Int) : List UInt8 := if z < 0 then 45 :: Lib.decDigits z.natAbs else Lib.decDigits z.natAbs
theorem txtZ_nonneg {z : Int} (h : ¬ z < 0) : txtZ z = Lib.decDigits z.natAbs := if_neg h
theorem txtZ_neg {z : Int} (h : z < 0) : txtZ z = 45 :: Lib.decDigits z.natAbs := if_pos h
theorem text_num (s : Bool) (a : Option Addr) (n cap : Nat) (z : Int) (hn : n ≤ 64) (w : World) (ht : Pow10 w) (h : IsN w s a n z) :
 Calls Tryz.prog 12 #[.agg #[.bool s, .slice a n cap]] w fun e w' => e = .returned (.string ⟨(txtZ z).toArray⟩) ∧ Below w.heap.size w w' := by
 have hs := h.sign
 by_cases hz : z < 0
 · obtain rfl : s = true := by rw [hs]; simp [hz]
   have hn0 : 0 < n := Nat.pos_of_ne_zero fun e => by
    have := h.dig.len
    rw [e] at this
    have := dlen_eq_zero.1 this.symm
    omega
   refine (text_neg a n cap z hn0 hn w ht h).mono ?_
   rintro e w' ⟨K, hK, hz0, hp, rfl, hb⟩
   rw [txt_dec hK hz0 hp, txtZ_neg hz]
   exact ⟨rfl, hb⟩
 · obtain rfl : s = false := by rw [hs]; simp [hz]
   refine (text_all a n cap z hn w ht h).mono ?_
   rintro e w' ⟨K, hK, hz0, hp, rfl, hb⟩
   rw [txt_dec hK hz0 hp, txtZ_nonneg hz]
   exact ⟨rfl, hb⟩
end Go.Proofs.YtgenaicmjddjcaaGreatDoor

/- num's parseDecimals of decimal digits. -/
namespace Go.Proofs.YtgenaicmjddjcaaGreatDoor
open Go.RowKit Go.Shelf

theorem pow_bp (k : Nat) : 10 ^ k ≤ bp k := by unfold bp; exact Nat.pow_le_pow_left (by decide) k
theorem dlen_dv {l : List UInt8} {k : Nat} (h : ∀ c ∈ l, isD c) (hk : l.length ≤ k) : dlen (dv l) ≤ k :=
 dlen_le_iff.2 (Nat.lt_of_lt_of_le (dv_lt l h) (Nat.le_trans (pow_bp _) (bp_le hk)))
theorem dlen_nine {x k : Nat} (h : dlen x ≤ k) : dlen (x * 1000000000) ≤ k + 1 := by
 rw [dlen_le_iff] at *
 rw [bp_succ]; omega
theorem lt_nine {x m : Nat} (h : x < 10 ^ m) (hm : m ≤ 9) : x < 1000000000 := Nat.lt_of_lt_of_le h (Nat.le_trans (Nat.pow_le_pow_right (by decide) hm) (by decide))
theorem bytes_size (l : List UInt8) : (⟨l.toArray⟩ : ByteArray).size = l.length := by simp [ByteArray.size]
theorem bytes_extract (l : List UInt8) (i j : Nat) : (⟨l.toArray⟩ : ByteArray).extract i j = ⟨((l.drop i).take (j - i)).toArray⟩ := by
 apply ByteArray.ext
 rw [ByteArray.data_extract]
 apply Array.toList_inj.1
 simp [List.extract_eq_take_drop]

set_option maxRecDepth 100000 in
set_option maxHeartbeats 4000000 in
theorem pdec_ok (l : List UInt8) (h640 : l.length ≤ 640) (hd : ∀ c ∈ l, isD c) (w : World) :
 Calls Tryz.prog 72 #[.string ⟨l.toArray⟩] w fun e w' => ∃ (a : Option Addr) (n c : Nat), e = .returned (.tuple #[.slice a n c, .bool true]) ∧ IsD w' a n (dv l) ∧ n ≤ c ∧ (n = 0 ∨ Fresh w a) ∧ Below w.heap.size w w' := by
 have HD := hide hd
 clear hd
 go_enter Tryz.func72, Tryz.ntmps72
 go_wp2_with fail
 go_loopw [0, 4] (fun p gv wr => ∃ (pre rest : List UInt8) (a : Option Addr) (n c : Nat), l = pre ++ rest ∧ p = .string ⟨rest.toArray⟩ ∧ gv = .slice a n c ∧ IsD wr a n (dv pre) ∧ n ≤ c ∧ (n = 0 ∨ Fresh w a) ∧ (pre = [] ∨ rest.length % 9 = 0) ∧ Below w.heap.size w wr)
  (fun p _ _ => strLen p)
 case atStart => exact ⟨[], l, none, 0, 0, rfl, rfl, rfl, ⟨by unfold dv; rw [dvA_nil, dlen_zero], .inl rfl⟩, Nat.le_refl _, .inl rfl, .inl rfl, Below.refl _ _⟩
 case round =>
  obtain ⟨pre, rest, a, n, c, hl, rfl, rfl, hI, hnc, hf, h9, hB⟩ := hrel
  have hs : (⟨rest.toArray⟩ : ByteArray).size = rest.length := bytes_size rest
  by_cases hr : rest = []
  · subst hr
    have hl' : pre = l := by rw [hl, List.append_nil]
    rw [hl'] at hI
    clear hs hl h9
    go_wp2_with fail
    go_ret2
    exact ⟨a, n, c, rfl, hI, hnc, hf, hB⟩
  · have hpos : 0 < rest.length := List.length_pos_iff.2 hr
    have hlen : rest.length ≤ 640 := by have := congrArg List.length hl; rw [List.length_append] at this; omega
    have hpos' : (0 : Int) < rest.length := by omega
    go_wp2_with fail
    obtain ⟨m, hm⟩ : ∃ m, (rest.length - 1) % 9 + 1 = m := ⟨_, rfl⟩
    have hmi : ((rest.length : Int) - 1) % 9 + 1 = (m : Int) := by omega
    have hm1 : 1 ≤ m ∧ m ≤ 9 ∧ m ≤ rest.length := by omega
    obtain ⟨q, hq⟩ : ∃ q, rest.take m = q := ⟨_, rfl⟩
    obtain ⟨r', hr'⟩ : ∃ r', rest.drop m = r' := ⟨_, rfl⟩
    have hqr : rest = q ++ r' := by rw [← hq, ← hr', List.take_append_drop]
    have hql : q.length = m := by rw [← hq, List.length_take]; omega
    have hrl : r'.length = rest.length - m := by rw [← hr', List.length_drop]
    have hqd : ∀ c ∈ q, isD c := fun c hc => HD.out c (by rw [hl, hqr]; simp [hc])
    have hq0 : q ≠ [] := fun e => by rw [e] at hql; simp at hql; omega
    have hpart := parse_nine hq0 (by omega) hqd
    have hqv := dv_lt q hqd
    have hx1 : (⟨rest.toArray⟩ : ByteArray).extract 0 m = ⟨q.toArray⟩ := by rw [bytes_extract]; simp [← hq]
    have hx2 : (⟨rest.toArray⟩ : ByteArray).extract m rest.length = ⟨r'.toArray⟩ := by rw [bytes_extract, ← hr', List.take_of_length_le (by simp)]
    have hq10 : dv q < 1000000000 := lt_nine (by rw [← hql]; exact hqv) hm1.2.1
    have hval : dv pre * 1000000000 + dv q = dv (pre ++ q) := by
     rw [dv_append]
     rcases h9 with h | h
     · have h0 : dv pre = 0 := by rw [h]; exact dvA_nil 0
       rw [h0, Nat.zero_mul, Nat.zero_mul]
     · rw [hql, show m = 9 by omega]
    have hrm : r'.length % 9 = 0 := by omega
    have hl2 : l = (pre ++ q) ++ r' := by rw [hl, hqr, List.append_assoc]
    have hmr : (m : Int) ≤ rest.length := by omega
    rw [hm, hx1, hmi]
    refine (Tryz.strconv_ParseUint_10_at32_ok ⟨q.toArray⟩ (by rw [bytes_size]; omega) (dv q) hpart wr).mono ?_
    rintro e w1 ⟨rfl, hw1⟩
    have hB1' : Below wr.heap.size wr w1 := by
     rcases hw1 with rfl | rfl
     · exact Below.refl _ _
     · exact below_bytes _ _ _
    have hB1 := hB.trans (hB1'.mono hB.size)
    have hI1 := hI.below hB1'
    have hn640 : n ≤ 640 := by
     rw [hI.len]
     exact dlen_dv (fun c hc => HD.out c (by rw [hl]; simp [hc])) (by have := congrArg List.length hl; rw [List.length_append] at this; omega)
    have HV := hide (And.intro hval (And.intro hrm hl2))
    have HX := hide hx2
    have HM := hide hmi
    have HR := hide (And.intro hrl hm1)
    clear hw1 hval hrm hl2 hqr hpart hqv hx1 hq hr' h9 hl hqd hx2 hI hB1' hmi hrl
    go_wp2_with fail
    have hBa : Below w1.heap.size w1 (w1.alloc (Obj.cells #[.int .u32 1000000000] 68)) := (Below.refl _ w1).alloc (Nat.le_refl _) _
    have hOne : IsD (w1.alloc (Obj.cells #[.int .u32 1000000000] 68)) (some ⟨w1.heap.size, 0, none⟩) 1 1000000000 :=
     ⟨(dlen_one (by decide) (by decide)).symm, .inr ⟨_, _, rfl, fun j hj => by match j, hj with | 0, _ => simp [go_sem, dgt, bp_zero]⟩⟩
    refine (times_any a (some ⟨w1.heap.size, 0, none⟩) (dv pre) 1000000000 n 1 c 1 (by omega) (by decide) _ (hI1.below hBa) hOne).mono ?_
    rintro e w2 ⟨a2, n2, c2, rfl, hd2, hc2, hf2, hb2⟩
    have hB2 := hB1.trans ((hBa.trans (hb2.mono hBa.size)).mono hB1.size)
    have hn2 : n2 ≤ 641 := by
     rw [hd2.len]
     exact dlen_nine (by rw [← hI1.len]; exact hn640)
    go_wp2_with fail
    refine (split_any (dv q) (by omega) w2).mono ?_
    rintro e w3 ⟨a3, n3, c3, rfl, hd3, hc3, hf3, hb3⟩
    have hn3 : n3 ≤ 64 := by rw [hd3.len]; exact Nat.le_trans ((dlen_le_iff (k := 1)).2 (by rw [bp_one]; omega)) (by decide)
    have hB3 := hB2.trans (hb3.mono hB2.size)
    go_wp2_with fail
    refine (plus_any a2 a3 (dv pre * 1000000000) (dv q) n2 n3 c2 c3 (by omega) (by omega) w3 (hd2.below hb3) hd3).mono ?_
    rintro e w4 ⟨a4, n4, c4, rfl, hd4, hc4, hf4, hb4⟩
    have hB4 := hB3.trans (hb4.mono hB3.size)
    rw [HV.out.1] at hd4
    go_wp2_with fail
    rw [HX.out]
    go_roundw
    case rel => exact ⟨pre ++ q, r', a4, n4, c4, HV.out.2.2, rfl, rfl, hd4, hc4, hf4.imp id fun h ad e => Nat.le_trans hB3.size (h ad e), .inr HV.out.2.1, hB4⟩
    case measure =>
     show (⟨r'.toArray⟩ : ByteArray).size < (⟨rest.toArray⟩ : ByteArray).size
     rw [bytes_size, bytes_size]
     have := HR.out
     omega
end Go.Proofs.YtgenaicmjddjcaaGreatDoor

/- num's Parse of a number's text. -/
namespace Go.Proofs.YtgenaicmjddjcaaGreatDoor
open Go.RowKit Go.Shelf

theorem nd_fitk {u k : Nat} (hk : 0 < k) (h : u < bp k) : Lib.nDigits u ≤ 10 * k := by
 have e : bp k ≤ 10 ^ (10 * k) := by
  rw [Nat.pow_mul]
  exact Nat.pow_le_pow_left (by decide) k
 obtain ⟨m, hm⟩ : ∃ m, 10 * k = m + 1 := ⟨10 * k - 1, by omega⟩
 rw [hm] at e ⊢
 exact nd_le m u (Nat.lt_of_lt_of_le h e)
theorem nd_fit {u : Nat} (h : dlen u ≤ 64) : Lib.nDigits u ≤ 640 := nd_fitk (k := 64) (by decide) (dlen_le_iff.1 h)
theorem cutZ (z : Int) (w : World) : Calls Tryz.prog 71 #[.string ⟨(txtZ z).toArray⟩, .string ⟨#[45]⟩] w fun e w' => e = .returned (.tuple #[.string ⟨(Lib.decDigits z.natAbs).toArray⟩, .bool (decide (z < 0))]) ∧ w' = w := by
 refine (Tryz.strings_CutPrefix ⟨(txtZ z).toArray⟩ ⟨#[45]⟩ w).mono ?_
 rintro e w' ⟨rfl, rfl⟩
 refine ⟨?_, rfl⟩
 by_cases hz : z < 0
 · rw [txtZ_neg hz]
   simp [Lib.trimPrefix, Lib.hasPrefix, hz]
 · rw [txtZ_nonneg hz]
   obtain ⟨c, r, h1, h2, -⟩ := dec_head z.natAbs
   have hc : ¬ (45 : UInt8) = c := by
    rintro rfl
    exact absurd h2 (by decide)
   have hp : List.isPrefixOf [(45 : UInt8)] (c :: r) = false := by
    show ((45 == c) && List.isPrefixOf [] r) = false
    rw [beq_eq_false_iff_ne.2 hc]; rfl
   rw [h1]
   simp [Lib.trimPrefix, Lib.hasPrefix, hz, hp]

theorem txtZ_zero : txtZ 0 = [48] := by rw [txtZ_nonneg (by decide)]; exact dec_small (by decide)
set_option maxRecDepth 100000 in
set_option maxHeartbeats 2000000 in
theorem parse_zero (w : World) : Calls Tryz.prog 13 #[.string ⟨#[48]⟩] w (NumPost w 0) := by
 have hpd := fun W => pdec_ok [48] (by decide) (by intro c hc; obtain rfl := List.mem_singleton.1 hc; decide) W
 have hdv : dv [48] = 0 := dv_one 48
 rw [hdv] at hpd
 have hcut := fun W => cutZ 0 W
 rw [txtZ_zero] at hcut
 have hd0 : Lib.decDigits (0 : Int).natAbs = [48] := dec_small (by decide)
 rw [hd0] at hcut
 have HP : Hid (∀ W, Calls Tryz.prog 72 #[.string ⟨#[48]⟩] W fun e w' => ∃ (a : Option Addr) (n c : Nat), e = .returned (.tuple #[.slice a n c, .bool true]) ∧ IsD w' a n 0 ∧ n ≤ c ∧ (n = 0 ∨ Fresh W a) ∧ Below W.heap.size W w') := hpd
 have HCUT : Hid (∀ W, Calls Tryz.prog 71 #[.string ⟨#[48]⟩, .string ⟨#[45]⟩] W fun e w' => e = .returned (.tuple #[.string ⟨#[48]⟩, .bool false]) ∧ w' = W) := hcut
 clear hpd hcut hdv hd0
 go_enter Tryz.func13, Tryz.ntmps13
 go_wp2_with fail
 have bC : Box2 (w.alloc (Obj.cells #[.bool false, .slice none 0 0] 25)) w.heap.size (.bool false) (.slice none 0 0) := Box2.new _ _ _ _
 have hB0 : Below w.heap.size w (w.alloc (Obj.cells #[.bool false, .slice none 0 0] 25)) := (Below.refl _ w).alloc (Nat.le_refl _) _
 obtain ⟨W0, hW0⟩ : ∃ W0, w.alloc (Obj.cells #[.bool false, .slice none 0 0] 25) = W0 := ⟨_, rfl⟩
 rw [hW0] at bC hB0 ⊢
 clear hW0
 refine (HCUT.out W0).mono ?_
 rintro e w' ⟨rfl, rfl⟩
 go_wp2_with fail
 refine (HP.out w').mono ?_
 rintro e w1 ⟨a1, n1, c1, rfl, hd1, hc1, hf1, hb1⟩
 have hB1 := hB0.trans (hb1.mono hB0.size)
 have bC1 := bC.below hb1 bC.lt
 go_wp2_with fail
 refine (number_of false a1 n1 c1 0 hc1 (by rw [hd1.len, dlen_zero]; decide) w1 hd1).mono ?_
 rintro e w2 ⟨s2, a2, n2, c2, rfl, hn2, ha2, hb2⟩
 have hB2 := hB1.trans (hb2.mono hB1.size)
 have bC2 := bC1.below hb2 bC1.lt
 rw [show signed false 0 = 0 from rfl] at hn2
 obtain rfl : n2 = 0 := by rw [hn2.dig.len]; exact dlen_zero
 obtain ⟨hbx, hN, hBB⟩ := num_store (cap := c2) bC2 (Nat.le_refl _) hB2 hn2 (.inl rfl)
 have hN' := hide hN
 clear hN
 obtain ⟨q0, q1, -, -⟩ := hbx
 obtain ⟨r0, r1, z0, z1⟩ := bC2
 go_wp2
 exact bodyPost_ret (v := .tuple #[.agg #[.bool s2, .slice a2 0 c2], .bool true]) (by simp [results, Tryz.results13, go_sem, q0, q1]) rfl ⟨_, _, _, _, rfl, hN'.out, .inl rfl, hBB⟩
end Go.Proofs.YtgenaicmjddjcaaGreatDoor

/- Decimal texts in order: of texts of one length the greater number's comes later; longer texts are those of greater numbers. -/
namespace Go.Proofs.YtgenaicmjddjcaaGreatDoor
open Go.RowKit Go.Shelf

theorem bytes_toList (l : List UInt8) : (⟨l.toArray⟩ : ByteArray).toList = l := by rw [Lib.toList_data]
end Go.Proofs.YtgenaicmjddjcaaGreatDoor

