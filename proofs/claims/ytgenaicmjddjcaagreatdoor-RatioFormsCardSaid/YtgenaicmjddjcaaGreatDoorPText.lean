/- Several texts in one. -/
import Derived.Test.YtgenaicmjddjcaaGreatDoorShelf
import Derived.Shelf.Strings.BuilderK
import Derived.Test.YtgenaicmjddjcaaGreatDoorPMem
import Derived.Lib.AppendIntMem
import Derived.WalkKit
import Derived.Test.YtgenaicmjddjcaaGreatDoorPNumD
import Derived.Test.YtgenaicmjddjcaaGreatDoorPNumB
import Derived.Laws.AppendOwn
import Derived.Test.YtgenaicmjddjcaaGreatDoorPNumC
/- A builder's writing methods at this program. -/
namespace Go.Proofs
open Go.Shelf Go.RowKit
def Tryz.wr167_ren : Go.Shelf.Ren := ⟨fun | 167 => 64 | 240 => 109 | 276 => 136 | n => n, fun | 0 => 0 | 3 => 3 | 4 => 4 | 5 => 5 | 9 => 9 | 20 => 20 | 37 => 79 | 70 => 81 | 72 => 83 | 75 => 85 | 80 => 94 | 164 => 137 | n => n, fun | n => n⟩
theorem Tryz.wr167 : Go.Proofs.Lays.n167 Tryz.prog Tryz.wr167_ren := {
 mixed := by kernel_rfl
 f167 := Tryz.func64.trans (congrArg some (by kernel_rfl))
 f240 := Tryz.func109.trans (congrArg some (by kernel_rfl))
 f276 := Tryz.func136.trans (congrArg some (by kernel_rfl))
 t0 := Tryz.underlying0
 a0 := Tryz.isAgg0
 z0 := Tryz.sizeOf0
 v0 := Tryz.zeroValue0
 t4 := Tryz.underlying4
 a4 := Tryz.isAgg4
 z4 := Tryz.sizeOf4
 v4 := Tryz.zeroValue4
 t5 := Tryz.underlying5
 a5 := Tryz.isAgg5
 z5 := Tryz.sizeOf5
 v5 := Tryz.zeroValue5
 t9 := Tryz.underlying9
 a9 := Tryz.isAgg9
 z9 := Tryz.sizeOf9
 v9 := Tryz.zeroValue9
 t20 := Tryz.underlying20
 a20 := Tryz.isAgg20
 z20 := Tryz.sizeOf20
 v20 := Tryz.zeroValue20
 t37 := Tryz.underlying79
 a37 := Tryz.isAgg79
 z37 := Tryz.sizeOf79
 v37 := Tryz.zeroValue79
 t70 := Tryz.underlying81
 a70 := Tryz.isAgg81
 z70 := Tryz.sizeOf81
 v70 := Tryz.zeroValue81
 t72 := Tryz.underlying83
 a72 := Tryz.isAgg83
 z72 := Tryz.sizeOf83
 v72 := Tryz.zeroValue83
 t75 := Tryz.underlying85
 a75 := Tryz.isAgg85
 z75 := Tryz.sizeOf85
 v75 := Tryz.zeroValue85
 t164 := Tryz.underlying137
 a164 := Tryz.isAgg137
 z164 := Tryz.sizeOf137
 v164 := Tryz.zeroValue137 }
theorem Tryz.wrExtra167 : Builder.Extra Tryz.prog Tryz.wr167_ren := {
 sizeBuilder := by kernel_rfl
 liesBuilder := by kernel_rfl
 t5 := Tryz.underlying5
 a5 := Tryz.isAgg5
 z5 := Tryz.sizeOf5
 v5 := Tryz.zeroValue5
 infoByte := by kernel_rfl
 cellsByte := by kernel_rfl
 sizeByte := by kernel_rfl
 neB5 := by decide }

def Tryz.wr166_ren : Go.Shelf.Ren := ⟨fun | 166 => 68 | 240 => 109 | 276 => 136 | n => n, fun | 0 => 0 | 3 => 3 | 4 => 4 | 5 => 5 | 9 => 9 | 20 => 20 | 37 => 79 | 70 => 81 | 72 => 83 | 75 => 85 | 80 => 94 | 164 => 137 | n => n, fun | n => n⟩
theorem Tryz.wr166 : Go.Proofs.Lays.n166 Tryz.prog Tryz.wr166_ren := {
 mixed := by kernel_rfl
 f166 := Tryz.func68.trans (congrArg some (by kernel_rfl))
 f240 := Tryz.func109.trans (congrArg some (by kernel_rfl))
 f276 := Tryz.func136.trans (congrArg some (by kernel_rfl))
 t0 := Tryz.underlying0
 a0 := Tryz.isAgg0
 z0 := Tryz.sizeOf0
 v0 := Tryz.zeroValue0
 t3 := Tryz.underlying3
 a3 := Tryz.isAgg3
 z3 := Tryz.sizeOf3
 v3 := Tryz.zeroValue3
 t4 := Tryz.underlying4
 a4 := Tryz.isAgg4
 z4 := Tryz.sizeOf4
 v4 := Tryz.zeroValue4
 t9 := Tryz.underlying9
 a9 := Tryz.isAgg9
 z9 := Tryz.sizeOf9
 v9 := Tryz.zeroValue9
 t20 := Tryz.underlying20
 a20 := Tryz.isAgg20
 z20 := Tryz.sizeOf20
 v20 := Tryz.zeroValue20
 t37 := Tryz.underlying79
 a37 := Tryz.isAgg79
 z37 := Tryz.sizeOf79
 v37 := Tryz.zeroValue79
 t70 := Tryz.underlying81
 a70 := Tryz.isAgg81
 z70 := Tryz.sizeOf81
 v70 := Tryz.zeroValue81
 t72 := Tryz.underlying83
 a72 := Tryz.isAgg83
 z72 := Tryz.sizeOf83
 v72 := Tryz.zeroValue83
 t75 := Tryz.underlying85
 a75 := Tryz.isAgg85
 z75 := Tryz.sizeOf85
 v75 := Tryz.zeroValue85
 t164 := Tryz.underlying137
 a164 := Tryz.isAgg137
 z164 := Tryz.sizeOf137
 v164 := Tryz.zeroValue137 }
theorem Tryz.wrExtra166 : Builder.Extra Tryz.prog Tryz.wr166_ren := {
 sizeBuilder := by kernel_rfl
 liesBuilder := by kernel_rfl
 t5 := Tryz.underlying5
 a5 := Tryz.isAgg5
 z5 := Tryz.sizeOf5
 v5 := Tryz.zeroValue5
 infoByte := by kernel_rfl
 cellsByte := by kernel_rfl
 sizeByte := by kernel_rfl
 neB5 := by decide }

theorem Tryz.write_byte_k (B b : Nat) (bs : List Value) (c : Int) (w : World) (h : Lib.IsBuilderF 83 5 B b bs w) (hlen : bs.length + 1 ≤ 140737488355328) (hBw : B ≤ w.heap.size) :
 Calls Tryz.prog 64 #[.pointer (some ⟨b, 0, none⟩), .int .u8 c] w fun e w' => e = .returned .nilIface ∧ (Lib.BuilderAtF 83 5 B b (.pointer (some ⟨b, 0, none⟩)) (bs ++ [.int .u8 c]) w' ∧ Below B w w' ∧ Lib.OthersKept 5 (some b) w w') := Any.Builder_WriteByte_k Tryz.wr167 Tryz.wrExtra167 B b bs c w h hlen hBw
theorem Tryz.write_string_k (B b : Nat) (bs : List Value) (s : ByteArray) (w : World) (h : Lib.IsBuilderF 83 5 B b bs w) (hlen : bs.length + s.size ≤ 140737488355328) (hBw : B ≤ w.heap.size) :
 Calls Tryz.prog 68 #[.pointer (some ⟨b, 0, none⟩), .string s] w fun e w' => e = .returned (.tuple #[.int .i64 s.size, .nilIface]) ∧ (Lib.BuilderAtF 83 5 B b (.pointer (some ⟨b, 0, none⟩)) (bs ++ Lib.strCells s) w' ∧ Below B w w' ∧ Lib.OthersKept 5 (some b) w w') := Any.Builder_WriteString_k Tryz.wr166 Tryz.wrExtra166 B b bs s w h hlen hBw
theorem Tryz.repeat_int (s : ByteArray) (z : Int) (c : Nat) (hz : z = (c : Int)) (w : World) (hc : c ≤ 9223372036854775807) (hlen : s.size * c ≤ 140737488355328) :
 Calls Tryz.prog 69 #[.string s, .int .i64 z] w fun e w' => e = .returned (.string ⟨(Lib.repeatL s.data.toList c).toArray⟩) ∧ Below w.heap.size w w' := by subst hz; exact Tryz.strings_Repeat s c w hc hlen
end Go.Proofs

/- strconv.FormatUint at base 10. -/
namespace Go.Proofs.YtgenaicmjddjcaaGreatDoor
open Go.RowKit Go.Shelf Go.Sort
theorem heap_before (w : World) (o : Obj) (i : Nat) (h : i < w.heap.size) : (w.alloc o).heap[i]? = w.heap[i]? := by
 show (w.heap.push o)[i]? = _
 rw [Array.getElem?_push, if_neg (Nat.ne_of_lt h)]

def Pow10 (w : World) : Prop := Lib.TabIs Tryz.prog w "internal/strconv.uint64pow10" .u64 Lib.pow10Tab
theorem Pow10.below {w w' : World} (h : Pow10 w) (hb : Below w.heap.size w w') : Pow10 w' := Lib.tabBelow_of_tabIs h w' hb

set_option maxRecDepth 100000 in
set_option maxHeartbeats 4000000 in
theorem formatUint_in (u : Nat) (hu : u < 18446744073709551616) (w : World) (ht : Pow10 w) :
 Calls Tryz.prog 114 #[.int .u64 (u : Int), .int .i64 10] w fun e w' => e = .returned (.string ⟨(Lib.decDigits u).toArray⟩) ∧ Below w.heap.size w w' := by
 by_cases hs : u < 100
 · go_enter Tryz.func114, Tryz.ntmps114
   go_wp2_with (go_at_call 137; refine (Tryz.internal_strconv_small u hs _).mono ?_; rintro e w' ⟨rfl, rfl⟩)
   go_ret
   exact ⟨rfl, Below.refl _ _⟩
 · have hu1 : 1 ≤ u := by omega
   have hnd : Lib.nDigits u ≤ 20 := by have := Lib.numDigits_eq u hu1 hu; split at this <;> omega
   have hal : Tryz.prog.arrayLen 140 = 24 := by simp [Program.arrayLen, Tryz.underlying140]
   have hsl : ∀ W, (Instr.sliceAt 140 (.pointer (some ⟨w.heap.size, 0, none⟩)) none (some (.int .i64 (Lib.nDigits u : Int))) none).run Tryz.prog W = .ok (.slice (some ⟨w.heap.size, 0, none⟩) (Lib.nDigits u) 24) W := fun W => by
    rw [run_sliceAt_array_h W 140 ⟨w.heap.size, 0, none⟩ (by simp [Program.arrayLen, Program.elem, Tryz.underlying140]) .i64 (Lib.nDigits u : Int) (by omega) (by rw [hal]; omega)]
    go_simp
   have hH0 := Lib.holds_zero0 w 140 (Lib.nDigits u) (by omega)
   have hfmt := Tryz.internal_strconv_formatBase10 w.heap.size 0 24 u (Array.replicate (Lib.nDigits u) 0) (w.alloc (.cells Lib.zeros24 140)) hH0 (by rw [Array.size_replicate]; exact Lib.lt_pow_nDigits u) hu (by rw [Array.size_replicate]; omega)
   rw [Array.size_replicate] at hfmt
   have HH0 := hide hH0
   have HF := hide hfmt
   clear hH0 hfmt hal
   go_enter Tryz.func114, Tryz.ntmps114
   go_wp2_with (go_at_call 138; refine (Tryz.internal_strconv_numDigits u hu1 hu _ (Lib.tabIs_alloc ht _)).mono ?_; rintro e w' ⟨rfl, rfl⟩)
   refine HF.out.mono ?_
   rintro e w' ⟨rfl, k, v', dk, rfl, hF⟩
   have hcv : (convert 79 9 (.slice (some ⟨w.heap.size, 0, none⟩) (Lib.nDigits u) 24)).run Tryz.prog ((putRow (fun (b : UInt8) => Value.int .u8 (b.toNat : Int)) (w.alloc (.cells Lib.zeros24 140)) w.heap.size 0 dk).drewN k) = .ok (.string ⟨(Lib.decDigits u).toArray⟩) ((putRow (fun (b : UInt8) => Value.int .u8 (b.toNat : Int)) (w.alloc (.cells Lib.zeros24 140)) w.heap.size 0 dk).drewN k) := by
    have h := run_convert_bytes_back (P := Tryz.prog) ((putRow (fun (b : UInt8) => Value.int .u8 (b.toNat : Int)) (w.alloc (.cells Lib.zeros24 140)) w.heap.size 0 dk).drewN k) 79 9 5 ⟨w.heap.size, 0, none⟩ 24 (Lib.decDigits u) Tryz.underlying79 Tryz.underlying5 Tryz.underlying9 (fun j hj => by
     rw [Lib.row_is_numeral hF j hj, Lib.add_plain, World.cell?_drewN]
     exact cell?_putRow (fun (b : UInt8) => Value.int .u8 (b.toNat : Int)) _ w.heap.size 0 _ dk HH0.out (by rw [hF.size, Array.size_replicate]) j (by rw [hF.size]; rw [Lib.decDigits_length] at hj; exact hj))
    rw [Lib.decDigits_length] at h
    exact h
   obtain ⟨os, eo⟩ := Lib.fin_at w (.cells Lib.zeros24 140) dk k 0
   have hBB : Below w.heap.size w ((putRow (fun (b : UInt8) => Value.int .u8 (b.toNat : Int)) (w.alloc (.cells Lib.zeros24 140)) w.heap.size 0 dk).drewN k) := by rw [eo]; exact Lib.below_grow _ w (Nat.le_refl _) k os
   clear eo hF HF HH0
   generalize ((putRow (fun (b : UInt8) => Value.int .u8 (b.toNat : Int)) (w.alloc (.cells Lib.zeros24 140)) w.heap.size 0 dk).drewN k) = w9 at *
   go_wp2
   go_ret
   exact ⟨rfl, hBB⟩

set_option maxRecDepth 100000 in
theorem formatUint_any (u : Nat) (hu : u < 18446744073709551616) (w : World) (ht : Pow10 w) :
 Calls Tryz.prog 67 #[.int .u64 (u : Int), .int .i64 10] w fun e w' => e = .returned (.string ⟨(Lib.decDigits u).toArray⟩) ∧ Below w.heap.size w w' := by
 go_enter Tryz.func67, Tryz.ntmps67
 go_wp2_with (go_at_call 114; refine (formatUint_in u hu _ ht).mono ?_; rintro e w' ⟨rfl, hb⟩)
 go_ret
 exact ⟨rfl, hb⟩

end Go.Proofs.YtgenaicmjddjcaaGreatDoor

/- num's decimalGroups. -/
namespace Go.Proofs.YtgenaicmjddjcaaGreatDoor
open Go.RowKit Go.Shelf

def grp (V j : Nat) : Nat := V / 1000000000 ^ j % 1000000000
def grpVals (V k : Nat) : List Value := (List.range k).map fun j => .int .u32 ((grp V j : Nat) : Int)
theorem grpVals_succ (V k : Nat) : grpVals V (k + 1) = grpVals V k ++ [.int .u32 ((grp V k : Nat) : Int)] := by simp [grpVals, List.range_succ]
theorem grp_next (V k : Nat) : V / 1000000000 ^ (k + 1) = V / 1000000000 ^ k / 1000000000 := by rw [Nat.pow_succ, Nat.div_div_eq_div_mul]
theorem bp_two_pow (n : Nat) : bp n = 2 ^ (32 * n) := by rw [Nat.pow_mul]; rfl
theorem grp_bound {V k n : Nat} (hV : V < bp n) (h : V / 1000000000 ^ k ≠ 0) : k < 32 * n := by
 have h1 : 1000000000 ^ k ≤ V := Nat.le_of_not_lt fun hlt => h (Nat.div_eq_of_lt hlt)
 have h2 : 2 ^ k ≤ 1000000000 ^ k := Nat.pow_le_pow_left (by decide) k
 rw [bp_two_pow] at hV
 exact (Nat.pow_lt_pow_iff_right (by decide : 1 < 2)).1 (Nat.lt_of_le_of_lt h2 (Nat.lt_of_le_of_lt h1 hV))
def GroupsPost (w : World) (V : Nat) (e : Ending) (w' : World) : Prop := ∃ (g k c : Nat), e = .returned (.slice (some ⟨g, 0, none⟩) k c) ∧ 0 < k ∧ k ≤ 2048 ∧ V / 1000000000 ^ k = 0 ∧ (k = 1 ∨ V / 1000000000 ^ (k - 1) ≠ 0) ∧
 Cells w' g 0 k (grp V) ∧ w.heap.size ≤ g ∧ (∃ cur fz, w'.heap[g]? = some (.cells cur 68 fz)) ∧ Below w.heap.size w w'
theorem owns_cells {w : World} {base : Nat} {e : TypeId} {gv : Value} {k V : Nat} (h : w.ownsRow base e 1 gv k (grpVals V k)) (hk : 0 < k) : ∃ g c, gv = .slice (some ⟨g, 0, none⟩) k c ∧ base ≤ g ∧ Cells w g 0 k (grp V) ∧ ∃ cur fz, w.heap[g]? = some (.cells cur e fz) := by
 rcases h.2 with ⟨_, h0⟩ | ⟨g, cap, cur, rfl, hb, hob, _⟩
 · omega
 · refine ⟨g, cap, rfl, hb, fun j hj => ?_, cur, _, hob⟩
   have := h.cells (g := g) rfl j (.int .u32 ((grp V j : Nat) : Int)) (by simp [grpVals, hj])
   rw [← this]; congr 1; unfold Addr.add; split <;> simp_all
def sliceLen : Value → Nat
 | .slice _ n _ => n
 | _ => 0
theorem Touch.grown {b lo hi : Nat} {w w' : World} (t : Touch b lo hi w w') : w.grownBy w' (some b) := ⟨t.os, t.tape, t.output, t.size, fun k hk hne => t.block k hk fun e => hne (by rw [e])⟩
theorem grown_of_below {w w' : World} (t : Below w.heap.size w w') : w.grownBy w' none := ⟨t.os, t.tape, t.output, t.size, fun k hk _ => t.block k hk⟩

set_option maxRecDepth 100000 in
set_option maxHeartbeats 4000000 in
theorem groups_any (a : Option Addr) (n cap V : Nat) (hn0 : 0 < n) (hn : n ≤ 64) (w : World) (hd : IsD w a n V) :
 Calls Tryz.prog 65 #[.slice a n cap] w (GroupsPost w V) := by
 obtain ⟨i0, hi, hz0, hz1, hz2⟩ := info_parts info_u32
 have hV : V < bp n := by rw [hd.len]; exact lt_bp_dlen V
 have HI := hide hi
 have HZ := hide (And.intro hz0 (And.intro hz1 hz2))
 have HV := hide hV
 clear hi hz0 hz1 hz2 hV
 go_enter Tryz.func65, Tryz.ntmps65
 go_wp2_with fail
 refine (resize_any a n cap n _ rfl (dgt V) (Nat.le_refl _) (by omega) w hd.dig).mono ?_
 rintro e w1 ⟨g, rfl, hg, hc1, hf1, hb1⟩
 have hgl := hc1.lt hn0
 go_wp2_with fail
 refine (shorten_any g 0 n n V 1000000000 (by decide) (by decide) (by omega) HV.out w1 hgl (hc1.congr fun j hj => by simp [mixF, hj]) hf1).mono ?_
 rintro e w2 ⟨rfl, hc2, ht2⟩
 have hB2 := hb1.trans (ht2.below hg hb1.size)
 have hf2 := hf1.touch ht2 hgl
 have hgl2 := hc2.lt hn0
 obtain ⟨r, hr⟩ : ∃ r, V % 1000000000 = r := ⟨_, rfl⟩
 rw [hr]
 have HR := hide hr
 clear hr hc1 ht2
 go_wp2_with fail
 have hv1 : valF (dgt (V / 1000000000)) n = V / 1000000000 := by
  rw [valF_dgt]; exact Nat.mod_eq_of_lt (Nat.lt_of_le_of_lt (Nat.div_le_self _ _) HV.out)
 obtain ⟨W3, hW3⟩ : ∃ W3, w2.alloc (Obj.cells #[.int .u32 (r : Int)] 68) = W3 := ⟨_, rfl⟩
 have ho3 : W3.ownsRow w2.heap.size 68 1 (.slice (some ⟨w2.heap.size, 0, none⟩) 1 1) 1 (grpVals V 1) := by
  rw [← hW3]
  refine ⟨rfl, .inr ⟨w2.heap.size, 1, #[.int .u32 (r : Int)], rfl, Nat.le_refl _, heap_alloc_new w2 _, Nat.le_refl _, by unfold maxLen; omega, rfl, ?_⟩⟩
  have hr := HR.out
  simp [grpVals, grp]
  omega
 have hb3 : Below w2.heap.size w2 W3 := by rw [← hW3]; exact (Below.refl _ w2).alloc (Nat.le_refl _) _
 have hB3 := hB2.trans (hb3.mono hB2.size)
 have hs3 := hb3.size
 rw [hW3]
 have hc3 := hc2.below hb3 (.inr hgl2)
 have hf3 := hf2.below hb3 hgl2
 have hcall := trim_any (some ⟨g, 0, none⟩) n n (dgt (V / 1000000000)) (by omega) (Nat.le_refl _) (fun _ _ => dgt_lt _ _) W3 (.inr ⟨g, 0, rfl, hc3⟩)
 rw [hv1] at hcall
 have HO := hide ho3
 clear hW3 hv1 ho3 hc2 hf2
 refine hcall.mono ?_
 clear hcall
 rintro e w4 ⟨a4, c4, rfl, ha4, hcap4, hb4⟩
 have hB4 := hB3.trans (hb4.mono hB3.size)
 have hs4 := hb4.size
 have ho4 : w4.ownsRow w2.heap.size 68 1 (.slice (some ⟨w2.heap.size, 0, none⟩) 1 1) 1 (grpVals V 1) := HO.out.kept (grown_of_below hb4) (by simp [Value.ownBlock])
 have hln : dlen (V / 1000000000) ≤ n := dlen_le_iff.2 (Nat.lt_of_le_of_lt (Nat.div_le_self _ _) HV.out)
 have hc4 : Cells w4 g 0 (dlen (V / 1000000000 ^ 1)) (dgt (V / 1000000000 ^ 1)) := by rw [Nat.pow_one]; exact (hc3.below hb4 (.inr (by omega))).mono hln
 have hf4 : Free w4 g 0 (dlen (V / 1000000000 ^ 1)) := by rw [Nat.pow_one]; exact fun j hj => (hf3.below hb4 (by omega)) j (by omega)
 have hgl4 : g < w4.heap.size := by omega
 have HO4 := hide ho4
 have HC4 := hide (And.intro hc4 hf4)
 clear ho4 hc4 hf4 hc3 hf3 HO
 go_wp2_with fail
 go_loopw [3, 4] (fun lv gv wr => ∃ (k : Nat) (la : Option Addr) (lc : Nat), 0 < k ∧ k ≤ 2048 ∧ lv = .slice la (dlen (V / 1000000000 ^ k)) lc ∧ (la = some ⟨g, 0, none⟩ ∨ dlen (V / 1000000000 ^ k) = 0) ∧ dlen (V / 1000000000 ^ k) ≤ lc ∧
  dlen (V / 1000000000 ^ k) ≤ n ∧ Cells wr g 0 (dlen (V / 1000000000 ^ k)) (dgt (V / 1000000000 ^ k)) ∧ Free wr g 0 (dlen (V / 1000000000 ^ k)) ∧ w2.heap.size ≤ wr.heap.size ∧
  wr.ownsRow w2.heap.size 68 1 gv k (grpVals V k) ∧ (k = 1 ∨ V / 1000000000 ^ (k - 1) ≠ 0) ∧ Below w.heap.size w wr)
  (fun _ gv _ => 4096 - sliceLen gv)
 case atStart =>
  exact ⟨1, a4, c4, by decide, by decide, by rw [Nat.pow_one], by rw [Nat.pow_one]; exact ha4, by rw [Nat.pow_one]; exact hcap4, by rw [Nat.pow_one]; exact hln, HC4.out.1, HC4.out.2, by omega, HO4.out, .inl rfl, hB4⟩
 case round =>
  obtain ⟨k, la, lc, hk0, hk, rfl, hla, hlc, hlk, hcx, hfx, hsx, hox, hkx, hBx⟩ := hrel
  obtain ⟨q, hq⟩ : ∃ q, V / 1000000000 ^ k = q := ⟨_, rfl⟩
  rw [hq] at hla hlc hlk hcx hfx ⊢
  by_cases h0 : q = 0
  · subst h0
    rw [dlen_zero] at hla hlc hlk hcx hfx ⊢
    have HQ := hide (And.intro hq hkx)
    have HO := hide hox
    clear hq hkx hox
    obtain ⟨g', c', rfl, hg', hcg, hob⟩ := owns_cells HO.out hk0
    have HOB := hide hob
    clear hob
    go_wp2_with fail
    go_ret
    exact ⟨g', k, c', rfl, hk0, hk, HQ.out.1, HQ.out.2, hcg, Nat.le_trans hB2.size hg', HOB.out, hBx⟩
  · have hkb := grp_bound HV.out (by rw [hq]; exact h0)
    have hl0 : 0 < dlen q := Nat.pos_of_ne_zero fun e => h0 (dlen_eq_zero.1 e)
    obtain ⟨l, hl⟩ : ∃ l, dlen q = l := ⟨_, rfl⟩
    rw [hl] at hla hlc hlk hcx hfx hl0 ⊢
    have hql : q < bp l := by rw [← hl]; exact lt_bp_dlen q
    obtain rfl : la = some ⟨g, 0, none⟩ := by rcases hla with h | h; exact h; omega
    have HQ := hide (And.intro hq (And.intro hl (And.intro h0 hkx)))
    have HO := hide hox
    have hcall := shorten_any g 0 l lc q 1000000000 (by decide) (by decide) (by omega) hql wr (hcx.lt hl0) hcx hfx
    have hglr := hcx.lt hl0
    have HS := hide hcall
    have HL := hide hql
    have HX := hide (And.intro hcx hfx)
    clear hq hkx hox hcall hql h0 hl hcx hfx
    go_wp2_with fail
    refine HS.out.mono ?_
    rintro e w5 ⟨rfl, hc5, ht5⟩
    obtain ⟨r5, hr5⟩ : ∃ r5, q % 1000000000 = r5 := ⟨_, rfl⟩
    rw [hr5]
    have HR5 := hide hr5
    have hgl5 := hc5.lt hl0
    have hf5 := HX.out.2.touch ht5 hglr
    have hs5 := ht5.size
    have hBx5 := hBx.trans (ht5.below hg hBx.size)
    have ho5 := HO.out.kept ht5.grown (.inr fun e => by have := (HO.out.lt g e).1; omega)
    have HC5 := hide (And.intro hc5 hf5)
    have HO5 := hide ho5
    clear hr5 hc5 hf5 ho5 ht5
    go_wp2_with (at_builtin; refine wpList_append_own _ rfl _ _ 23 rfl w2.heap.size 68 i0 (.int .u32 0) 1 4 Tryz.underlying23 HI.out HZ.out.1 HZ.out.2.1 HZ.out.2.2 rfl (by decide) _ _ _ rfl (HO5.out.alloc _) ⟨w5.heap.size, 0, none⟩ 1 1 [.int .u32 (r5 : Int)] rfl rfl ?c1 ?c2 ?c3 ?c4 ?c5 ?_)
    case c1 =>
     intro j u hj
     match j, hj with
     | 0, hj => simp at hj; subst hj; simp [Addr.add]
    case c2 => intro u hu; simp at hu; subst hu; rfl
    case c3 => unfold maxLen; omega
    case c4 => omega
    case c5 => simp; omega
    intro v' w6 hown6 hgrow _
    have hs6 : w5.heap.size + 1 ≤ w6.heap.size := by have := hgrow.size; rw [World.size_alloc] at this; exact this
    have hbg : w6.heap[g]? = w5.heap[g]? := by
     rw [hgrow.block g (by rw [World.size_alloc]; omega) (fun e => by have := (HO5.out.lt g e.symm).1; omega), heap_before _ _ _ hgl5]
    have hc6 : Cells w6 g 0 l (dgt (q / 1000000000)) := fun j hj => by rw [cell_of_block_eq hbg]; exact HC5.out.1 j hj
    have hf6 : Free w6 g 0 l := fun j hj => by rw [frozen_of_block_eq hbg]; exact HC5.out.2 j hj
    have hB6 : Below w.heap.size w w6 := (hBx5.alloc hBx5.size _).grown hgrow (by rw [World.size_alloc]; have := hBx5.size; omega) (fun k' hk' => Nat.le_trans hB2.size (HO5.out.lt k' hk').1)
    have hqv : valF (dgt (q / 1000000000)) l = q / 1000000000 := by
     rw [valF_dgt]; exact Nat.mod_eq_of_lt (Nat.lt_of_le_of_lt (Nat.div_le_self _ _) HL.out)
    have hcall := trim_any (some ⟨g, 0, none⟩) l lc (dgt (q / 1000000000)) (by omega) hlc (fun _ _ => dgt_lt _ _) w6 (.inr ⟨g, 0, rfl, hc6⟩)
    rw [hqv] at hcall
    have HT := hide hcall
    have HO6 := hide hown6
    have HC6 := hide (And.intro hc6 hf6)
    clear hcall hown6 hc6 hf6 hqv hbg hgrow
    go_wp2_with fail
    refine HT.out.mono ?_
    rintro e w7 ⟨a7, c7, rfl, ha7, hcap7, hb7⟩
    have hs7 := hb7.size
    have ho7 := HO6.out.kept (grown_of_below hb7) (by cases v'.ownBlock <;> simp)
    have hll : dlen (q / 1000000000) ≤ l := dlen_le_iff.2 (Nat.lt_of_le_of_lt (Nat.div_le_self _ _) HL.out)
    have hc7 := (HC6.out.1.below hb7 (.inr (by omega))).mono hll
    have hf7 : Free w7 g 0 (dlen (q / 1000000000)) := fun j hj => (HC6.out.2.below hb7 (by omega)) j (by omega)
    have hB7 := hB6.trans (hb7.mono hB6.size)
    have HO7 := hide ho7
    have HC7 := hide (And.intro hc7 hf7)
    have HA7 := hide ha7
    clear ho7 hc7 hf7 ha7
    obtain ⟨g', cg, hv'⟩ : ∃ g' cg, v' = .slice (some ⟨g', 0, none⟩) (k + 1) cg := by
     rcases HO7.out.2 with ⟨_, h0⟩ | ⟨g', cap', cur', hv, _⟩
     · omega
     · exact ⟨g', cap', hv⟩
    obtain ⟨gu, cu, hu4⟩ : ∃ gu cu, u4 = .slice (some ⟨gu, 0, none⟩) k cu := by
     rcases HO.out.2 with ⟨_, h0⟩ | ⟨g', cap', cur', hv, _⟩
     · omega
     · exact ⟨g', cap', hv⟩
    have HV' := hide hv'
    have HU4 := hide hu4
    clear hv' hu4
    go_wp2_with fail
    go_roundw
    case rel =>
     have hn := grp_next V k
     rw [HQ.out.1] at hn
     refine ⟨k + 1, a7, c7, by omega, by omega, by rw [hn], by rw [hn]; exact HA7.out, by rw [hn]; exact hcap7, by rw [hn]; omega, by rw [hn]; exact HC7.out.1, by rw [hn]; exact HC7.out.2, by omega, ?_, .inr ?_, hB7⟩
     · rw [grpVals_succ, show grp V k = r5 by unfold grp; rw [HQ.out.1]; exact HR5.out]; exact HO7.out
     · rw [Nat.add_sub_cancel, HQ.out.1]; exact HQ.out.2.2.1
    case measure => simp [HV'.out, HU4.out, sliceLen]; omega
end Go.Proofs.YtgenaicmjddjcaaGreatDoor

/- num's Text. -/
namespace Go.Proofs.YtgenaicmjddjcaaGreatDoor
open Go.RowKit Go.Shelf
attribute [local go_sem] Oper.semAt_some

def piece (V K j : Nat) : List UInt8 := (if j + 1 < K then Lib.repeatL [48] (9 - Lib.nDigits (grp V j)) else []) ++ Lib.decDigits (grp V j)
def txt (V K : Nat) : Nat → List UInt8
 | 0 => []
 | m + 1 => txt V K m ++ piece V K (K - (m + 1))

def Stays (W W' : World) : Prop := ∀ (k : Nat) (o : Obj), W.heap[k]? = some o → o.isCells = true → W'.heap[k]? = some o
theorem Stays.of_below {W W' : World} (h : Below W.heap.size W W') : Stays W W' := fun k o hk _ => by
 rw [h.block k (Array.getElem?_eq_some_iff.1 hk).1]; exact hk
theorem Stays.builder {T e : TypeId} {B b : Nat} {bs : List Value} {W W' : World} (h : Lib.IsBuilderF T e B b bs W) (s : Stays W W') : Lib.IsBuilderF T e B b bs W' := by
 have h1 : ∀ p, Lib.BuilderAtF T e B b p bs W → Lib.BuilderAtF T e B b p bs W' := by
  rintro p ⟨hB, v, hb, ho, hne⟩
  refine ⟨hB, v, s _ _ hb rfl, ⟨ho.1, ?_⟩, hne⟩
  rcases ho.2 with hn | ⟨g, c, cur, fz, e1, e2, e3, rest⟩
  · exact .inl hn
  · exact .inr ⟨g, c, cur, fz, e1, e2, s _ _ e3 rfl, rest⟩
 exact h.imp (h1 _) (h1 _)

theorem nd_le : ∀ (k u : Nat), u < 10 ^ (k + 1) → Lib.nDigits u ≤ k + 1
 | 0, u, h => by rw [Lib.nDigits_small (by simpa using h)]; exact Nat.le_refl _
 | k + 1, u, h => by
   by_cases hs : u < 10
   · rw [Lib.nDigits_small hs]; omega
   · rw [Lib.nDigits_big hs]
     have := nd_le k (u / 10) (by rw [Nat.pow_succ] at h; omega)
     omega
theorem grp_lt (V j : Nat) : grp V j < 1000000000 := Nat.mod_lt _ (by decide)
theorem grp_nd (V j : Nat) : Lib.nDigits (grp V j) ≤ 9 := nd_le 8 _ (by have := grp_lt V j; simpa using this)
theorem piece_len (V K j : Nat) : (piece V K j).length ≤ 9 := by
 have := grp_nd V j
 unfold piece
 rw [List.length_append, Lib.decDigits_length]
 split
 · rw [Lib.repeatL_length]; simp; omega
 · simp; omega
theorem txt_len (V K : Nat) : ∀ m, (txt V K m).length ≤ 9 * m
 | 0 => by simp [txt]
 | m + 1 => by
   have := txt_len V K m
   have := piece_len V K (K - (m + 1))
   simp only [txt, List.length_append]; omega
theorem kept_cell {e T : TypeId} {b k : Nat} {W W' : World} {cur : Array Value} {fz : Nat × Nat} (h : Lib.OthersKept e (some b) W W') (hk : W.heap[k]? = some (.cells cur T fz)) (hT : T ≠ e) (hkb : k ≠ b) (o : Nat) :
 W'.cell? ⟨k, o, none⟩ = W.cell? ⟨k, o, none⟩ := World.cell?_of_block ((h k _ hk (fun e => hkb (Option.some.inj e)) (fun c f e => by cases e; exact hT rfl)).trans hk.symm)
theorem kept_below {e : TypeId} {bo : Option Nat} {a w w' : World} (h : Lib.OthersKept e bo a w) (hb : Below w.heap.size w w') : Lib.OthersKept e bo a w' := fun k o hk hkb ho => by
 have h1 := h k o hk hkb ho
 rw [hb.block k (Array.getElem?_eq_some_iff.1 h1).1]; exact h1
theorem text_step (pre : List UInt8) (V K k : Nat) (hk : k < K) (d : Nat) (hd : grp V k = d) (part : ByteArray) (hp : (⟨(Lib.decDigits d).toArray⟩ : ByteArray) = part) (hs : part.size = Lib.nDigits d) :
 Lib.byteCells (pre ++ txt V K (K - k)) = Lib.byteCells (pre ++ txt V K (K - (k + 1))) ++ (if k + 1 < K then Lib.strCells ⟨(Lib.repeatL [48] (9 - part.size)).toArray⟩ else []) ++ Lib.strCells part := by
 rw [show K - k = (K - (k + 1)) + 1 by omega]
 simp only [txt]
 rw [show K - (K - (k + 1) + 1) = k by omega]
 have e1 : Lib.strCells part = Lib.byteCells (Lib.decDigits d) := by rw [← hp]; rfl
 rw [e1, hs]
 unfold piece
 rw [hd]
 split
 · simp [Lib.byteCells, Lib.strCells, List.append_assoc]
 · simp [Lib.byteCells, List.append_assoc]
theorem kept_from {e : TypeId} {b B : Nat} {W W' : World} (h : Lib.OthersKept e (some b) W W') (hb : b < B) (hs : W.heap.size ≤ W'.heap.size) : KeepsFrom B W W' :=
 ⟨hs, fun k o hk ho hc => h k o ho (fun e => by cases e; omega) (fun c f e => by rw [e] at hc; cases hc)⟩

def TextPost (w : World) (pre : List UInt8) (V : Nat) (e : Ending) (w' : World) : Prop := ∃ K, 0 < K ∧ V / 1000000000 ^ K = 0 ∧ (K = 1 ∨ V / 1000000000 ^ (K - 1) ≠ 0) ∧ e = .returned (.string ⟨(pre ++ txt V K K).toArray⟩) ∧ Below w.heap.size w w'

set_option maxRecDepth 100000 in
set_option maxHeartbeats 8000000 in
theorem text_neg (a : Option Addr) (n cap : Nat) (z : Int) (hn0 : 0 < n) (hn : n ≤ 64) (w : World) (ht : Pow10 w) (h : IsN w true a n z) :
 Calls Tryz.prog 12 #[.agg #[.bool true, .slice a n cap]] w (TextPost w [45] z.natAbs) := by
 refine calls_marks Tryz.func12 rfl ?_
 simp only [Tryz.ntmps12, List.size_toArray, List.length_cons, List.length_nil, Nat.reduceAdd, Nat.reduceSub, Array.replicate_succ, Array.replicate_zero, List.push_toArray, List.append_toArray, List.nil_append, List.cons_append]
 go_wp2_with fail
 obtain ⟨W0, hW0⟩ : ∃ W0, w.alloc (Obj.cells #[.bool true, .slice a n cap] 25) = W0 := ⟨_, rfl⟩
 have bA : Box2 W0 w.heap.size (.bool true) (.slice a n cap) := by rw [← hW0]; exact Box2.new w _ _ _
 have hB0 : Below w.heap.size w W0 := by rw [← hW0]; exact (Below.refl _ w).alloc (Nat.le_refl _) _
 rw [hW0]
 clear hW0
 refine (right_yes true a n cap z hn _ (h.below hB0)).mono ?_
 rintro e w1 ⟨rfl, hb1⟩
 have hB1 := hB0.trans (hb1.mono hB0.size)
 have bA1 := bA.below hb1 bA.lt
 have bA1k := bA1
 have hlt1 := bA1.lt
 obtain ⟨a0, a1, -, -⟩ := bA1
 go_wp2_with fail
 obtain ⟨W2, hW2⟩ : ∃ W2, w1.alloc (Obj.cells #[.pointer none, .slice none 0 0] 83) = W2 := ⟨_, rfl⟩
 have hb2 : Below w1.heap.size w1 W2 := by rw [← hW2]; exact (Below.refl _ w1).alloc (Nat.le_refl _) _
 have hbl2 : Lib.IsBuilderF 83 5 w1.heap.size w1.heap.size (Lib.byteCells []) W2 := by
  rw [← hW2]; exact .inl ⟨Nat.le_refl _, .slice none 0 0, heap_alloc_new w1 _, World.ownsRowF_nil _ _ _ _, by simp [Value.ownBlock]⟩
 have hs2 : W2.heap.size = w1.heap.size + 1 := by rw [← hW2]; exact World.size_alloc _ _
 have hB2 := hB1.trans (hb2.mono hB1.size)
 rw [hW2]
 clear hW2 a0 a1
 have bA2 := bA1k.below hb2 hlt1
 refine (Tryz.write_byte_k w1.heap.size w1.heap.size _ 45 W2 hbl2 (by simp [Lib.byteCells]) (by omega)).mono ?_
 rintro e Wn ⟨rfl, hbn, hBn, hkn⟩
 have hB2o := hB2
 have hsn := hBn.size
 obtain ⟨a0, a1, -, -⟩ := bA2.below hBn hlt1
 have HBN := hide hbn
 clear hbn hkn
 go_wp2_with fail
 have hB2 : Below w.heap.size w Wn := hB2o.trans (hBn.mono (by omega))
 have hbl2 : Lib.IsBuilderF 83 5 w1.heap.size w1.heap.size (Lib.byteCells [45]) Wn := .inr HBN.out
 clear a0 a1
 have hd2 : IsD Wn a n z.natAbs := h.dig.below hB2
 refine (groups_any a n cap z.natAbs hn0 hn Wn hd2).mono ?_
 rintro e w3 ⟨g, K, c3, rfl, hK0, hK, hKz, hKp, hc3, hg3, hob3, hb3⟩
 have hB4 := hB2.trans (hb3.mono hB2.size)
 have hbl4 := (Stays.of_below hb3).builder hbl2
 have hs4 := hb3.size
 have HK := hide (And.intro hKz hKp)
 have HOB := hide hob3
 have HC3 := hide hc3
 clear hKz hKp hob3 hc3 hd2
 go_wp2_with (go_at_call 66; refine (backward_any _ _ _ _).mono ?_; rintro e w' ⟨rfl, rfl⟩)
 obtain ⟨W5, hW5⟩ : ∃ W5, (w3.alloc (Obj.cells #[.slice (some ⟨g, 0, none⟩) K c3] 23)).alloc (Obj.cells #[.slice (some ⟨g, 0, none⟩) K c3] 23) = W5 := ⟨_, rfl⟩
 have hb5 : Below w3.heap.size w3 W5 := by rw [← hW5]; exact ((Below.refl _ w3).alloc (Nat.le_refl _) _).alloc (by simp) _
 have o4 : W5.heap[w3.heap.size]? = some (.cells #[.slice (some ⟨g, 0, none⟩) K c3] 23 (0, 0)) := by
  rw [← hW5, heap_before _ _ _ (by simp)]; exact heap_alloc_new w3 _
 have o5 : W5.heap[w3.heap.size + 1]? = some (.cells #[.slice (some ⟨g, 0, none⟩) K c3] 23 (0, 0)) := by
  have := heap_alloc_new (w3.alloc (Obj.cells #[.slice (some ⟨g, 0, none⟩) K c3] 23)) (Obj.cells #[.slice (some ⟨g, 0, none⟩) K c3] 23)
  rw [World.size_alloc] at this; rw [← hW5]; exact this
 have hs5 : W5.heap.size = w3.heap.size + 2 := by rw [← hW5]; simp
 have c4 : W5.cell? ⟨w3.heap.size, 0, none⟩ = some (.slice (some ⟨g, 0, none⟩) K c3) := by rw [Lib.cell_of_heap o4]; rfl
 have c5 : W5.cell? ⟨w3.heap.size + 1, 0, none⟩ = some (.slice (some ⟨g, 0, none⟩) K c3) := by rw [Lib.cell_of_heap o5]; rfl
 rw [hW5]
 clear hW5
 have hglt : g < w3.heap.size := HC3.out.lt hK0
 obtain ⟨cur, fz, hob⟩ := HOB.out
 have hob5 : W5.heap[g]? = some (.cells cur 68 fz) := (hb5.block g hglt).trans hob
 have hc5 : Cells W5 g 0 K (grp z.natAbs) := HC3.out.below hb5 (.inr hglt)
 have hB5 := hB4.trans (hb5.mono hB4.size)
 have hbl5 := (Stays.of_below hb5).builder hbl4
 have hpow5 : Pow10 W5 := ht.below hB5
 obtain ⟨V, hV⟩ : ∃ V, z.natAbs = V := ⟨_, rfl⟩
 rw [hV] at HK hc5 ⊢
 have HC5 := hide hc5
 have HO := hide (And.intro o4 (And.intro o5 hob5))
 have HPW := hide hpow5
 have HCC := hide (And.intro c4 c5)
 have HBL := hide hbl5
 have HV := hide hV
 clear hc5 o4 o5 hob5 hob hpow5 c4 c5 hbl5 hbl4 hbl2 hV
 have hmx : Tryz.prog.follows .mixedOrders = true := by kernel_rfl
 refine wp_backW (w3.heap.size + 1) (some ⟨g, 0, none⟩) K c3 (by omega) rfl rfl
  (fun k W => Lib.OthersKept 5 (some w1.heap.size) W5 W ∧ Lib.IsBuilderF 83 5 w1.heap.size w1.heap.size (Lib.byteCells ([45] ++ txt V K (K - k))) W ∧ Below w.heap.size w W ∧ W5.heap.size ≤ W.heap.size)
  (fun _ _ => False)
  ?hI ?hIx (fun k W h => (kept_cell h.1 HO.out.2.1 (by decide) (by omega) 0).trans HCC.out.2) ⟨Lib.OthersKept.refl _ _ _, by rw [Nat.sub_self]; simpa [txt] using HBL.out, hB5, Nat.le_refl _⟩
  (fun k v => { tmps := #[.agg #[.bool true, .slice a n cap], .pointer (some ⟨w.heap.size, 0, none⟩), .string ⟨#[]⟩, .pointer (some ⟨w1.heap.size, 0, none⟩), .pointer (some ⟨w3.heap.size, 0, none⟩), .int .i64 (k : Int), .int .u32 v, undef, .agg #[.bool true, .slice a n cap], .bool true, .bool false,
    .pointer (some ⟨w.heap.size, 0, none⟩), .bool true, .nilIface, .pointer (some ⟨w.heap.size, 1, none⟩), .slice a n cap, .slice (some ⟨g, 0, none⟩) K c3, .slice (some ⟨g, 0, none⟩) K c3, .func (.func 113) #[] #[.pointer (some ⟨w3.heap.size + 1, 0, none⟩)], .int .i64 (k : Int), .int .u32 v,
    undef, undef, undef, undef, undef, undef, undef, undef, undef, undef, undef, undef, undef, undef, undef, undef], defers := [] })
  ?hcell ?assign ?body ?done ?stop
 case hI =>
  intro s W W' row hs hg hr
  obtain ⟨h1, h2, h3, h4⟩ := hs
  have hst : Stays W W' := fun k o hk ho => by
   rw [hg.block k (Array.getElem?_eq_some_iff.1 hk).1 (fun e => by obtain ⟨-, o', ho', hc'⟩ := hr k e.symm; rw [hk] at ho'; cases ho'; rw [ho] at hc'; cases hc')]; exact hk
  have hbw : Below W5.heap.size W W' := (Below.refl _ W).grown hg h4 (fun k e => (hr k e).1)
  refine ⟨fun k o hk hkb ho => ?_, hst.builder h2, h3.trans (hbw.mono hB5.size), Nat.le_trans h4 hbw.size⟩
  rw [hbw.block k (Array.getElem?_eq_some_iff.1 hk).1]; exact h1 k o hk hkb ho
 case hIx => exact fun _ _ _ _ h _ _ => h
 case hcell =>
  rintro k W hk ⟨h1, _, _, _⟩
  refine ⟨g, 0, _, rfl, (kept_cell h1 HO.out.2.2 (by decide) (by omega) _).trans (HC5.out k hk)⟩
 case assign =>
  intro l k v W K' hK'
  gi_wp2
  exact hK'
 case body =>
  rintro l k v b' off' W hk ⟨h1, h2, h3, h4⟩ ha hcv
  cases ha
  obtain ⟨d, hd⟩ : ∃ d, grp V k = d := ⟨_, rfl⟩
  obtain rfl : v = ((d : Nat) : Int) := by
   have := (kept_cell h1 HO.out.2.2 (by decide) (by omega) (0 + k)).trans (HC5.out k hk)
   rw [hcv, hd] at this; cases this; rfl
  have hd9 : d < 1000000000 := by rw [← hd]; exact grp_lt V k
  have hpw : Pow10 W := ht.below h3
  obtain ⟨part, hpart⟩ : ∃ part : ByteArray, (⟨(Lib.decDigits d).toArray⟩ : ByteArray) = part := ⟨_, rfl⟩
  have hps : part.size = Lib.nDigits d := by rw [← hpart]; show (Lib.decDigits d).toArray.size = _; rw [List.size_toArray, Lib.decDigits_length]
  have hp9 : part.size ≤ 9 := by rw [hps, ← hd]; exact grp_nd V k
  have hfu := formatUint_any d (by omega) W hpw
  rw [hpart] at hfu
  have HFU := hide hfu
  have HP := hide (And.intro hpart (And.intro hps hd))
  have h2k := hide h2
  have HH1 := hide h1
  have htl := txt_len V K (K - (k + 1))
  have hk2 : (k : Int) < K := by omega
  clear hfu hpart hd hps h2 h1 hpw hcv
  by_cases hlast : k + 1 < K
  · have hl2 : (k : Int) < (K : Int) - 1 := by omega
    gi_wp2_with fail
    refine ⟨trivial, ?_⟩
    gi_at_call 67
    refine (CallsIn.inRound l (callsIn_wide.2 HFU.out)).mono ?_
    rintro e W1 ⟨rfl, hbf⟩
    have h1f := kept_below HH1.out hbf
    have c4f := (kept_cell h1f HO.out.1 (by decide) (by omega) 0).trans HCC.out.1
    have hsf := hbf.size
    gi_wp2_with fail
    refine ⟨trivial, ?_⟩
    gi_at_call 69
    refine (CallsIn.inRound l (callsIn_wide.2 (Tryz.repeat_int _ _ (9 - part.size) (by omega) _ (by omega) (by show 1 * _ ≤ _; omega)))).mono ?_
    rintro e Wb ⟨rfl, hbr⟩
    have h2r := (Stays.of_below hbr).builder ((Stays.of_below hbf).builder h2k)
    have hsr := hbr.size
    have hln1 : (Lib.byteCells ([45] ++ txt V K (K - (k + 1)))).length ≤ 9 * (K - (k + 1)) + 1 := by rw [Lib.byteCells_length, List.length_append]; simp <;> omega
    have hln2 : (⟨(Lib.repeatL [48] (9 - part.size)).toArray⟩ : ByteArray).size ≤ 9 := by show (Lib.repeatL [48] (9 - part.size)).toArray.size ≤ 9; rw [List.size_toArray, Lib.repeatL_length]; simp <;> omega
    gi_wp2_with fail
    refine ⟨trivial, ?_⟩
    gi_at_call 68
    refine (CallsIn.inRound l (callsIn_wide.2 (Tryz.write_string_k w1.heap.size w1.heap.size _ _ Wb h2r (by show _ + _ ≤ _; omega) (by omega)))).mono ?_
    rintro e Wc ⟨rfl, hbw, hBw, hkw⟩
    have hsw := hBw.size
    gi_wp2_with fail
    refine ⟨trivial, ?_⟩
    gi_at_call 68
    refine (CallsIn.inRound l (callsIn_wide.2 (Tryz.write_string_k w1.heap.size w1.heap.size _ part Wc (.inr hbw) (by rw [List.length_append, Lib.strCells_length]; omega) (by omega)))).mono ?_
    rintro e Wd ⟨rfl, hbx, hBx, hkx⟩
    gi_wp2
    have hkk : Lib.OthersKept 5 (some w1.heap.size) W Wd := ((kept_below (kept_below (Lib.OthersKept.refl _ _ _) hbf) hbr).trans hkw).trans hkx
    have hsd : W.heap.size ≤ Wd.heap.size := by have := hBx.size; omega
    refine ⟨kept_from hkk (by omega) hsd, HH1.out.trans hkk, .inr ?_, (((h3.trans (hbf.mono (by omega))).trans (hbr.mono (by omega))).trans (hBw.mono (by omega))).trans (hBx.mono (by omega)), by omega⟩
    rw [text_step [45] V K k hk d HP.out.2.2 part HP.out.1 HP.out.2.1, if_pos hlast]
    exact hbx
  · have hl2 : ¬ (k : Int) < (K : Int) - 1 := by omega
    gi_wp2_with fail
    refine ⟨trivial, ?_⟩
    gi_at_call 67
    refine (CallsIn.inRound l (callsIn_wide.2 HFU.out)).mono ?_
    rintro e W1 ⟨rfl, hbf⟩
    have h1f := kept_below HH1.out hbf
    have c4f := (kept_cell h1f HO.out.1 (by decide) (by omega) 0).trans HCC.out.1
    have hsf := hbf.size
    have h2r := (Stays.of_below hbf).builder h2k
    have hln1 : (Lib.byteCells ([45] ++ txt V K (K - (k + 1)))).length ≤ 9 * (K - (k + 1)) + 1 := by rw [Lib.byteCells_length, List.length_append]; simp <;> omega
    gi_wp2_with fail
    refine ⟨trivial, ?_⟩
    gi_at_call 68
    refine (CallsIn.inRound l (callsIn_wide.2 (Tryz.write_string_k w1.heap.size w1.heap.size _ part W1 h2r (by omega) (by omega)))).mono ?_
    rintro e Wd ⟨rfl, hbx, hBx, hkx⟩
    gi_wp2
    have hkk : Lib.OthersKept 5 (some w1.heap.size) W Wd := (kept_below (Lib.OthersKept.refl _ _ _) hbf).trans hkx
    have hsd : W.heap.size ≤ Wd.heap.size := by have := hBx.size; omega
    refine ⟨kept_from hkk (by omega) hsd, HH1.out.trans hkk, .inr ?_, (h3.trans (hbf.mono (by omega))).trans (hBx.mono (by omega)), by omega⟩
    rw [text_step [45] V K k hk d HP.out.2.2 part HP.out.1 HP.out.2.1, if_neg hlast, List.append_nil]
    exact hbx
 case done =>
  rintro D W hD ⟨h1, h2, h3, h4⟩ hK
  rw [Nat.sub_zero] at h2
  have HK1 := hide hK
  have HP1 := hide h1
  clear hK h1
  go_wp2_with fail
  refine (Tryz.Builder_String_any_k w1.heap.size w1.heap.size ([45] ++ txt V K K) W h2 (by omega)).mono ?_
  rintro e W' ⟨rfl, -, hBs, hks⟩
  have hK' : W'.heap[D]? = some (.deferred (some [])) := hks D _ HK1.out (fun e => by cases e; omega) (fun c f e => by cases e)
  go_wp2
  have hc := calm_put (.deferred none) hD hK' rfl
  exact leavesM_one hK' ⟨_, results_tmp rfl _ _ _, ⟨K, hK0, by rw [HV.out]; exact HK.out.1, by rw [HV.out]; exact HK.out.2, by rw [HV.out]; rfl, (h3.trans (hBs.mono (by omega))).trans (hc.below.mono (by omega))⟩⟩
 case stop => exact fun _ _ _ _ h _ => h.elim

end Go.Proofs.YtgenaicmjddjcaaGreatDoor

/- num's Parse of three strings. -/
namespace Go.Proofs.YtgenaicmjddjcaaGreatDoor
open Go.RowKit Go.Shelf

def strLen : Value → Nat
 | .string s => s.size
 | _ => 0
theorem below_bytes (w : World) (t : TypeId) (s : ByteArray) : Below w.heap.size w (Lib.bytesWorld w t s) := Lib.bytesWorld_below w t s

end Go.Proofs.YtgenaicmjddjcaaGreatDoor

/- the law's sanity. -/
namespace Go.Proofs.YtgenaicmjddjcaaGreatDoor
open Go.RowKit Go.Shelf

end Go.Proofs.YtgenaicmjddjcaaGreatDoor

