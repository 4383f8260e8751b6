/- num's decimalGroups. -/
import Derived.Test.YtmpdeiopdempcaaGreatDoorNumQ
import Derived.Test.YtmpdeiopdempcaaGreatDoorNumJ
import Derived.Laws.AppendOwn
namespace Go.Proofs.YtmpdeiopdempcaaGreatDoor
open Go.RowKit Go.Shelf

/-- the digits to the base 10^9 -/
def grp (V j : Nat) : Nat := V / 1000000000 ^ j % 1000000000
def grpVals (V k : Nat) : List Value := (List.range k).map fun j => .int .u32 ((grp V j : Nat) : Int)
theorem grpVals_length (V k : Nat) : (grpVals V k).length = k := by simp [grpVals]
theorem grpVals_succ (V k : Nat) : grpVals V (k + 1) = grpVals V k ++ [.int .u32 ((grp V k : Nat) : Int)] := by simp [grpVals, List.range_succ]
theorem grp_next (V k : Nat) : V / 1000000000 ^ (k + 1) = V / 1000000000 ^ k / 1000000000 := by rw [Nat.pow_succ, Nat.div_div_eq_div_mul]
theorem bp_two_pow (n : Nat) : bp n = 2 ^ (32 * n) := by rw [Nat.pow_mul]; rfl
theorem grp_bound {V k n : Nat} (hV : V < bp n) (h : V / 1000000000 ^ k ≠ 0) : k < 32 * n := by
  have h1 : 1000000000 ^ k ≤ V := Nat.le_of_not_lt fun hlt => h (Nat.div_eq_of_lt hlt)
  have h2 : 2 ^ k ≤ 1000000000 ^ k := Nat.pow_le_pow_left (by decide) k
  rw [bp_two_pow] at hV
  exact (Nat.pow_lt_pow_iff_right (by decide : 1 < 2)).1 (Nat.lt_of_le_of_lt h2 (Nat.lt_of_le_of_lt h1 hV))
/-- what decimalGroups hands back -/
def GroupsPost (w : World) (V : Nat) (e : Ending) (w' : World) : Prop := ∃ (g k c : Nat), e = .returned (.slice (some ⟨g, 0, none⟩) k c) ∧ 0 < k ∧ k ≤ 2048 ∧ V / 1000000000 ^ k = 0 ∧ (k = 1 ∨ V / 1000000000 ^ (k - 1) ≠ 0) ∧
      Cells w' g 0 k (grp V) ∧ w.heap.size ≤ g ∧ (∃ cur fz, w'.heap[g]? = some (.cells cur 52 fz)) ∧ Below w.heap.size w w'
theorem owns_cells {w : World} {base : Nat} {e : TypeId} {gv : Value} {k V : Nat} (h : w.ownsRow base e 1 gv k (grpVals V k)) (hk : 0 < k) : ∃ g c, gv = .slice (some ⟨g, 0, none⟩) k c ∧ base ≤ g ∧ Cells w g 0 k (grp V) ∧ ∃ cur fz, w.heap[g]? = some (.cells cur e fz) := by
  rcases h.2 with ⟨_, h0⟩ | ⟨g, cap, cur, rfl, hb, hob, _⟩
  · omega
  · refine ⟨g, cap, rfl, hb, fun j hj => ?_, cur, _, hob⟩
    have := h.cells (g := g) rfl j (.int .u32 ((grp V j : Nat) : Int)) (by simp [grpVals, hj])
    rw [← this]; congr 1; unfold Addr.add; split <;> simp_all
/-- a slice's length -/
def sliceLen : Value → Nat
  | .slice _ n _ => n
  | _ => 0
theorem Touch.grown {b lo hi : Nat} {w w' : World} (t : Touch b lo hi w w') : w.grownBy w' (some b) := ⟨t.os, t.tape, t.output, t.size, fun k hk hne => t.block k hk fun e => hne (by rw [e])⟩
theorem grown_of_below {w w' : World} (t : Below w.heap.size w w') : w.grownBy w' none := ⟨t.os, t.tape, t.output, t.size, fun k hk _ => t.block k hk⟩

set_option maxRecDepth 100000 in
set_option maxHeartbeats 4000000 in
theorem groups_any (a : Option Addr) (n cap V : Nat) (hn0 : 0 < n) (hn : n ≤ 64) (w : World) (hd : IsD w a n V) :
    Calls Tryz.prog 49 #[.slice a n cap] w (GroupsPost w V) := by
  obtain ⟨i0, hi, hz0, hz1, hz2⟩ := info_parts info_u32
  have hV : V < bp n := by rw [hd.len]; exact lt_bp_dlen V
  have HI := hide hi
  have HZ := hide (And.intro hz0 (And.intro hz1 hz2))
  have HV := hide hV
  clear hi hz0 hz1 hz2 hV
  go_enter Tryz.func49, Tryz.ntmps49
  go_wp2_with fail
  refine (resize_any a n cap n _ rfl (dgt V) (Nat.le_refl _) (by omega) w hd.dig).mono ?_
  rintro e w1 ⟨g, rfl, hg, hc1, hf1, hb1⟩
  have hgl := hc1.lt hn0
  go_wp2_with fail
  refine (shorten_any g 0 n n V 1000000000 (by decide) (by decide) (by omega) HV.out w1 hgl (hc1.congr fun j hj => by simp [mixF, hj]) hf1).mono ?_
  rintro e w2 ⟨rfl, hc2, ht2⟩
  have hB2 := hb1.trans (ht2.below hg hb1.size)
  have hf2 := hf1.touch ht2 hgl
  have hgl2 := hc2.lt hn0
  obtain ⟨r, hr⟩ : ∃ r, V % 1000000000 = r := ⟨_, rfl⟩
  rw [hr]
  have HR := hide hr
  clear hr hc1 ht2
  go_wp2_with fail
  have hv1 : valF (dgt (V / 1000000000)) n = V / 1000000000 := by
    rw [valF_dgt]; exact Nat.mod_eq_of_lt (Nat.lt_of_le_of_lt (Nat.div_le_self _ _) HV.out)
  obtain ⟨W3, hW3⟩ : ∃ W3, w2.alloc (Obj.cells #[Value.int .u32 (r : Int)] 52) = W3 := ⟨_, rfl⟩
  have ho3 : W3.ownsRow w2.heap.size 52 1 (.slice (some ⟨w2.heap.size, 0, none⟩) 1 1) 1 (grpVals V 1) := by
    rw [← hW3]
    refine ⟨rfl, .inr ⟨w2.heap.size, 1, #[.int .u32 (r : Int)], rfl, Nat.le_refl _, heap_alloc_new w2 _, Nat.le_refl _, by unfold maxLen; omega, rfl, ?_⟩⟩
    have hr := HR.out
    simp [grpVals, grp]
    omega
  have hb3 : Below w2.heap.size w2 W3 := by rw [← hW3]; exact (Below.refl _ w2).alloc (Nat.le_refl _) _
  have hB3 := hB2.trans (hb3.mono hB2.size)
  have hs3 := hb3.size
  rw [hW3]
  have hc3 := hc2.below hb3 (.inr hgl2)
  have hf3 := hf2.below hb3 hgl2
  have hcall := trim_any (some ⟨g, 0, none⟩) n n (dgt (V / 1000000000)) (by omega) (Nat.le_refl _) (fun _ _ => dgt_lt _ _) W3 (.inr ⟨g, 0, rfl, hc3⟩)
  rw [hv1] at hcall
  have HO := hide ho3
  clear hW3 hv1 ho3 hc2 hf2
  refine hcall.mono ?_
  clear hcall
  rintro e w4 ⟨a4, c4, rfl, ha4, hcap4, hb4⟩
  have hB4 := hB3.trans (hb4.mono hB3.size)
  have hs4 := hb4.size
  have ho4 : w4.ownsRow w2.heap.size 52 1 (.slice (some ⟨w2.heap.size, 0, none⟩) 1 1) 1 (grpVals V 1) := HO.out.kept (grown_of_below hb4) (by simp [Value.ownBlock])
  have hln : dlen (V / 1000000000) ≤ n := dlen_le_iff.2 (Nat.lt_of_le_of_lt (Nat.div_le_self _ _) HV.out)
  have hc4 : Cells w4 g 0 (dlen (V / 1000000000 ^ 1)) (dgt (V / 1000000000 ^ 1)) := by rw [Nat.pow_one]; exact (hc3.below hb4 (.inr (by omega))).mono hln
  have hf4 : Free w4 g 0 (dlen (V / 1000000000 ^ 1)) := by rw [Nat.pow_one]; exact fun j hj => (hf3.below hb4 (by omega)) j (by omega)
  have hgl4 : g < w4.heap.size := by omega
  have HO4 := hide ho4
  have HC4 := hide (And.intro hc4 hf4)
  clear ho4 hc4 hf4 hc3 hf3 HO
  go_wp2_with fail
  go_loopw [3, 4] (fun lv gv wr => ∃ (k : Nat) (la : Option Addr) (lc : Nat), 0 < k ∧ k ≤ 2048 ∧ lv = .slice la (dlen (V / 1000000000 ^ k)) lc ∧ (la = some ⟨g, 0, none⟩ ∨ dlen (V / 1000000000 ^ k) = 0) ∧ dlen (V / 1000000000 ^ k) ≤ lc ∧
      dlen (V / 1000000000 ^ k) ≤ n ∧ Cells wr g 0 (dlen (V / 1000000000 ^ k)) (dgt (V / 1000000000 ^ k)) ∧ Free wr g 0 (dlen (V / 1000000000 ^ k)) ∧ w2.heap.size ≤ wr.heap.size ∧
      wr.ownsRow w2.heap.size 52 1 gv k (grpVals V k) ∧ (k = 1 ∨ V / 1000000000 ^ (k - 1) ≠ 0) ∧ Below w.heap.size w wr)
    (fun _ gv _ => 4096 - sliceLen gv)
  case atStart =>
    exact ⟨1, a4, c4, by decide, by decide, by rw [Nat.pow_one], by rw [Nat.pow_one]; exact ha4, by rw [Nat.pow_one]; exact hcap4, by rw [Nat.pow_one]; exact hln, HC4.out.1, HC4.out.2, by omega, HO4.out, .inl rfl, hB4⟩
  case round =>
    obtain ⟨k, la, lc, hk0, hk, rfl, hla, hlc, hlk, hcx, hfx, hsx, hox, hkx, hBx⟩ := hrel
    obtain ⟨q, hq⟩ : ∃ q, V / 1000000000 ^ k = q := ⟨_, rfl⟩
    rw [hq] at hla hlc hlk hcx hfx ⊢
    by_cases h0 : q = 0
    · subst h0
      rw [dlen_zero] at hla hlc hlk hcx hfx ⊢
      have HQ := hide (And.intro hq hkx)
      have HO := hide hox
      clear hq hkx hox
      obtain ⟨g', c', rfl, hg', hcg, hob⟩ := owns_cells HO.out hk0
      have HOB := hide hob
      clear hob
      go_wp2_with fail
      go_ret
      exact ⟨g', k, c', rfl, hk0, hk, HQ.out.1, HQ.out.2, hcg, Nat.le_trans hB2.size hg', HOB.out, hBx⟩
    · have hkb := grp_bound HV.out (by rw [hq]; exact h0)
      have hl0 : 0 < dlen q := Nat.pos_of_ne_zero fun e => h0 (dlen_eq_zero.1 e)
      obtain ⟨l, hl⟩ : ∃ l, dlen q = l := ⟨_, rfl⟩
      rw [hl] at hla hlc hlk hcx hfx hl0 ⊢
      have hql : q < bp l := by rw [← hl]; exact lt_bp_dlen q
      obtain rfl : la = some ⟨g, 0, none⟩ := by rcases hla with h | h; exact h; omega
      have HQ := hide (And.intro hq (And.intro hl (And.intro h0 hkx)))
      have HO := hide hox
      have hcall := shorten_any g 0 l lc q 1000000000 (by decide) (by decide) (by omega) hql wr (hcx.lt hl0) hcx hfx
      have hglr := hcx.lt hl0
      have HS := hide hcall
      have HL := hide hql
      have HX := hide (And.intro hcx hfx)
      clear hq hkx hox hcall hql h0 hl hcx hfx
      go_wp2_with fail
      refine HS.out.mono ?_
      rintro e w5 ⟨rfl, hc5, ht5⟩
      obtain ⟨r5, hr5⟩ : ∃ r5, q % 1000000000 = r5 := ⟨_, rfl⟩
      rw [hr5]
      have HR5 := hide hr5
      have hgl5 := hc5.lt hl0
      have hf5 := HX.out.2.touch ht5 hglr
      have hs5 := ht5.size
      have hBx5 := hBx.trans (ht5.below hg hBx.size)
      have ho5 := HO.out.kept ht5.grown (.inr fun e => by have := (HO.out.lt g e).1; omega)
      have HC5 := hide (And.intro hc5 hf5)
      have HO5 := hide ho5
      clear hr5 hc5 hf5 ho5 ht5
      go_wp2_with (at_builtin; refine wpList_append_own _ rfl _ _ 25 rfl w2.heap.size 52 i0 (.int .u32 0) 1 4 Tryz.underlying25 HI.out HZ.out.1 HZ.out.2.1 HZ.out.2.2 rfl (by decide) _ _ _ rfl (HO5.out.alloc _) ⟨w5.heap.size, 0, none⟩ 1 1 [.int .u32 (r5 : Int)] rfl rfl ?c1 ?c2 ?c3 ?c4 ?c5 ?_)
      case c1 =>
        intro j u hj
        match j, hj with
        | 0, hj => simp at hj; subst hj; simp [Addr.add]
      case c2 => intro u hu; simp at hu; subst hu; rfl
      case c3 => unfold maxLen; omega
      case c4 => omega
      case c5 => simp; omega
      intro v' w6 hown6 hgrow _
      have hs6 : w5.heap.size + 1 ≤ w6.heap.size := by have := hgrow.size; rw [World.size_alloc] at this; exact this
      have hbg : w6.heap[g]? = w5.heap[g]? := by
        rw [hgrow.block g (by rw [World.size_alloc]; omega) (fun e => by have := (HO5.out.lt g e.symm).1; omega), heap_alloc_old _ _ _ hgl5]
      have hc6 : Cells w6 g 0 l (dgt (q / 1000000000)) := fun j hj => by rw [cell_of_block_eq hbg]; exact HC5.out.1 j hj
      have hf6 : Free w6 g 0 l := fun j hj => by rw [frozen_of_block_eq hbg]; exact HC5.out.2 j hj
      have hB6 : Below w.heap.size w w6 := (hBx5.alloc hBx5.size _).grown hgrow (by rw [World.size_alloc]; have := hBx5.size; omega) (fun k' hk' => Nat.le_trans hB2.size (HO5.out.lt k' hk').1)
      have hqv : valF (dgt (q / 1000000000)) l = q / 1000000000 := by
        rw [valF_dgt]; exact Nat.mod_eq_of_lt (Nat.lt_of_le_of_lt (Nat.div_le_self _ _) HL.out)
      have hcall := trim_any (some ⟨g, 0, none⟩) l lc (dgt (q / 1000000000)) (by omega) hlc (fun _ _ => dgt_lt _ _) w6 (.inr ⟨g, 0, rfl, hc6⟩)
      rw [hqv] at hcall
      have HT := hide hcall
      have HO6 := hide hown6
      have HC6 := hide (And.intro hc6 hf6)
      clear hcall hown6 hc6 hf6 hqv hbg hgrow
      go_wp2_with fail
      refine HT.out.mono ?_
      rintro e w7 ⟨a7, c7, rfl, ha7, hcap7, hb7⟩
      have hs7 := hb7.size
      have ho7 := HO6.out.kept (grown_of_below hb7) (by cases v'.ownBlock <;> simp)
      have hll : dlen (q / 1000000000) ≤ l := dlen_le_iff.2 (Nat.lt_of_le_of_lt (Nat.div_le_self _ _) HL.out)
      have hc7 := (HC6.out.1.below hb7 (.inr (by omega))).mono hll
      have hf7 : Free w7 g 0 (dlen (q / 1000000000)) := fun j hj => (HC6.out.2.below hb7 (by omega)) j (by omega)
      have hB7 := hB6.trans (hb7.mono hB6.size)
      have HO7 := hide ho7
      have HC7 := hide (And.intro hc7 hf7)
      have HA7 := hide ha7
      clear ho7 hc7 hf7 ha7
      obtain ⟨g', cg, hv'⟩ : ∃ g' cg, v' = .slice (some ⟨g', 0, none⟩) (k + 1) cg := by
        rcases HO7.out.2 with ⟨_, h0⟩ | ⟨g', cap', cur', hv, _⟩
        · omega
        · exact ⟨g', cap', hv⟩
      obtain ⟨gu, cu, hu4⟩ : ∃ gu cu, u4 = .slice (some ⟨gu, 0, none⟩) k cu := by
        rcases HO.out.2 with ⟨_, h0⟩ | ⟨g', cap', cur', hv, _⟩
        · omega
        · exact ⟨g', cap', hv⟩
      have HV' := hide hv'
      have HU4 := hide hu4
      clear hv' hu4
      go_wp2_with fail
      go_roundw
      case rel =>
        have hn := grp_next V k
        rw [HQ.out.1] at hn
        refine ⟨k + 1, a7, c7, by omega, by omega, by rw [hn], by rw [hn]; exact HA7.out, by rw [hn]; exact hcap7, by rw [hn]; omega, by rw [hn]; exact HC7.out.1, by rw [hn]; exact HC7.out.2, by omega, ?_, .inr ?_, hB7⟩
        · rw [grpVals_succ, show grp V k = r5 by unfold grp; rw [HQ.out.1]; exact HR5.out]; exact HO7.out
        · rw [Nat.add_sub_cancel, HQ.out.1]; exact HQ.out.2.2.1
      case measure => simp [HV'.out, HU4.out, sliceLen]; omega
end Go.Proofs.YtmpdeiopdempcaaGreatDoor
