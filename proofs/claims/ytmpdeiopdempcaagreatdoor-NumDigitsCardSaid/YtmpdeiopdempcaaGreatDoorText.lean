/- num's Text. -/
import Derived.Test.YtmpdeiopdempcaaGreatDoorGrp
import Derived.Test.YtmpdeiopdempcaaGreatDoorFmt
import Derived.Test.YtmpdeiopdempcaaGreatDoorNumL
import Derived.Shelf.Strings.BuilderK
namespace Go.Proofs.YtmpdeiopdempcaaGreatDoor
open Go.RowKit Go.Shelf
attribute [local go_sem] Oper.semAt_some

/-- one group's part of the text -/
def piece (V K j : Nat) : List UInt8 := (if j + 1 < K then Lib.repeatL [48] (9 - Lib.nDigits (grp V j)) else []) ++ Lib.decDigits (grp V j)
/-- the text of the groups from j on -/
def txt (V K : Nat) : Nat → List UInt8
  | 0 => []
  | m + 1 => txt V K m ++ piece V K (K - (m + 1))

/-- objects of cells stay -/
def Stays (W W' : World) : Prop := ∀ (k : Nat) (o : Obj), W.heap[k]? = some o → o.isCells = true → W'.heap[k]? = some o
theorem Stays.of_below {W W' : World} (h : Below W.heap.size W W') : Stays W W' := fun k o hk _ => by
  rw [h.block k (Array.getElem?_eq_some_iff.1 hk).1]; exact hk
theorem Stays.builder {T e : TypeId} {B b : Nat} {bs : List Value} {W W' : World} (h : Lib.IsBuilderF T e B b bs W) (s : Stays W W') : Lib.IsBuilderF T e B b bs W' := by
  have h1 : ∀ p, Lib.BuilderAtF T e B b p bs W → Lib.BuilderAtF T e B b p bs W' := by
    rintro p ⟨hB, v, hb, ho, hne⟩
    refine ⟨hB, v, s _ _ hb rfl, ⟨ho.1, ?_⟩, hne⟩
    rcases ho.2 with hn | ⟨g, c, cur, fz, e1, e2, e3, rest⟩
    · exact .inl hn
    · exact .inr ⟨g, c, cur, fz, e1, e2, s _ _ e3 rfl, rest⟩
  exact h.imp (h1 _) (h1 _)

theorem nd_le : ∀ (k u : Nat), u < 10 ^ (k + 1) → Lib.nDigits u ≤ k + 1
  | 0, u, h => by rw [Lib.nDigits_small (by simpa using h)]; exact Nat.le_refl _
  | k + 1, u, h => by
    by_cases hs : u < 10
    · rw [Lib.nDigits_small hs]; omega
    · rw [Lib.nDigits_big hs]
      have := nd_le k (u / 10) (by rw [Nat.pow_succ] at h; omega)
      omega
theorem grp_lt (V j : Nat) : grp V j < 1000000000 := Nat.mod_lt _ (by decide)
theorem grp_nd (V j : Nat) : Lib.nDigits (grp V j) ≤ 9 := nd_le 8 _ (by have := grp_lt V j; simpa using this)
theorem piece_len (V K j : Nat) : (piece V K j).length ≤ 9 := by
  have := grp_nd V j
  unfold piece
  rw [List.length_append, Lib.decDigits_length]
  split
  · rw [Lib.repeatL_length]; simp; omega
  · simp; omega
theorem txt_len (V K : Nat) : ∀ m, (txt V K m).length ≤ 9 * m
  | 0 => by simp [txt]
  | m + 1 => by
    have := txt_len V K m
    have := piece_len V K (K - (m + 1))
    simp only [txt, List.length_append]; omega
theorem kept_cell {e T : TypeId} {b k : Nat} {W W' : World} {cur : Array Value} {fz : Nat × Nat} (h : Lib.OthersKept e (some b) W W') (hk : W.heap[k]? = some (.cells cur T fz)) (hT : T ≠ e) (hkb : k ≠ b) (o : Nat) :
    W'.cell? ⟨k, o, none⟩ = W.cell? ⟨k, o, none⟩ := World.cell?_of_block ((h k _ hk (fun e => hkb (Option.some.inj e)) (fun c f e => by cases e; exact hT rfl)).trans hk.symm)
theorem kept_below {e : TypeId} {bo : Option Nat} {a w w' : World} (h : Lib.OthersKept e bo a w) (hb : Below w.heap.size w w') : Lib.OthersKept e bo a w' := fun k o hk hkb ho => by
  have h1 := h k o hk hkb ho
  rw [hb.block k (Array.getElem?_eq_some_iff.1 h1).1]; exact h1
theorem text_step (pre : List UInt8) (V K k : Nat) (hk : k < K) (d : Nat) (hd : grp V k = d) (part : ByteArray) (hp : (⟨(Lib.decDigits d).toArray⟩ : ByteArray) = part) (hs : part.size = Lib.nDigits d) :
    Lib.byteCells (pre ++ txt V K (K - k)) = Lib.byteCells (pre ++ txt V K (K - (k + 1))) ++ (if k + 1 < K then Lib.strCells ⟨(Lib.repeatL [48] (9 - part.size)).toArray⟩ else []) ++ Lib.strCells part := by
  rw [show K - k = (K - (k + 1)) + 1 by omega]
  simp only [txt]
  rw [show K - (K - (k + 1) + 1) = k by omega]
  have e1 : Lib.strCells part = Lib.byteCells (Lib.decDigits d) := by rw [← hp]; rfl
  rw [e1, hs]
  unfold piece
  rw [hd]
  split
  · simp [Lib.byteCells, Lib.strCells, List.append_assoc]
  · simp [Lib.byteCells, List.append_assoc]
theorem kept_from {e : TypeId} {b B : Nat} {W W' : World} (h : Lib.OthersKept e (some b) W W') (hb : b < B) (hs : W.heap.size ≤ W'.heap.size) : KeepsFrom B W W' :=
  ⟨hs, fun k o hk ho hc => h k o ho (fun e => by cases e; omega) (fun c f e => by rw [e] at hc; cases hc)⟩

/-- what Text hands back -/
def TextPost (w : World) (pre : List UInt8) (V : Nat) (e : Ending) (w' : World) : Prop := ∃ K, 0 < K ∧ V / 1000000000 ^ K = 0 ∧ (K = 1 ∨ V / 1000000000 ^ (K - 1) ≠ 0) ∧ e = .returned (.string ⟨(pre ++ txt V K K).toArray⟩) ∧ Below w.heap.size w w'

set_option maxRecDepth 100000 in
set_option maxHeartbeats 8000000 in
theorem text_pos (a : Option Addr) (n cap : Nat) (z : Int) (hn0 : 0 < n) (hn : n ≤ 64) (w : World) (ht : Pow10 w) (h : IsN w false a n z) :
    Calls Tryz.prog 20 #[.agg #[.bool false, .slice a n cap]] w (TextPost w [] z.natAbs) := by
  refine calls_marks Tryz.func20 rfl ?_
  simp only [Tryz.ntmps20, List.size_toArray, List.length_cons, List.length_nil, Nat.reduceAdd, Nat.reduceSub, Array.replicate_succ, Array.replicate_zero, List.push_toArray, List.append_toArray, List.nil_append, List.cons_append]
  go_wp2_with fail
  obtain ⟨W0, hW0⟩ : ∃ W0, w.alloc (Obj.cells #[Value.bool false, Value.slice a n cap] 27) = W0 := ⟨_, rfl⟩
  have bA : Box2 W0 w.heap.size (.bool false) (.slice a n cap) := by rw [← hW0]; exact Box2.new w _ _ _
  have hB0 : Below w.heap.size w W0 := by rw [← hW0]; exact (Below.refl _ w).alloc (Nat.le_refl _) _
  rw [hW0]
  clear hW0
  refine (right_yes false a n cap z hn _ (h.below hB0)).mono ?_
  rintro e w1 ⟨rfl, hb1⟩
  have hB1 := hB0.trans (hb1.mono hB0.size)
  have bA1 := bA.below hb1 bA.lt
  have bA1k := bA1
  have hlt1 := bA1.lt
  obtain ⟨a0, a1, -, -⟩ := bA1
  go_wp2_with fail
  obtain ⟨W2, hW2⟩ : ∃ W2, w1.alloc (Obj.cells #[Value.pointer none, Value.slice none 0 0] 66) = W2 := ⟨_, rfl⟩
  have hb2 : Below w1.heap.size w1 W2 := by rw [← hW2]; exact (Below.refl _ w1).alloc (Nat.le_refl _) _
  have hbl2 : Lib.IsBuilderF 66 5 w1.heap.size w1.heap.size (Lib.byteCells []) W2 := by
    rw [← hW2]; exact .inl ⟨Nat.le_refl _, .slice none 0 0, heap_alloc_new w1 _, World.ownsRowF_nil _ _ _ _, by simp [Value.ownBlock]⟩
  have hs2 : W2.heap.size = w1.heap.size + 1 := by rw [← hW2]; exact World.size_alloc _ _
  have hB2 := hB1.trans (hb2.mono hB1.size)
  rw [hW2]
  clear hW2 a0 a1
  have bA2 := bA1k.below hb2 hlt1
  have bA2k := bA2
  have hbl3 := hbl2
  have hB3 := hB2
  have hs3 : w1.heap.size + 1 ≤ W2.heap.size := by omega
  have hd2 : IsD W2 a n z.natAbs := h.dig.below hB2
  refine (groups_any a n cap z.natAbs hn0 hn W2 hd2).mono ?_
  rintro e w3 ⟨g, K, c3, rfl, hK0, hK, hKz, hKp, hc3, hg3, hob3, hb3⟩
  have hB4 := hB2.trans (hb3.mono hB2.size)
  have hbl4 := (Stays.of_below hb3).builder hbl2
  have hs4 := hb3.size
  have HK := hide (And.intro hKz hKp)
  have HOB := hide hob3
  have HC3 := hide hc3
  clear hKz hKp hob3 hc3 hd2
  go_wp2_with (go_at_call 50; refine (backward_any _ _ _ _).mono ?_; rintro e w' ⟨rfl, rfl⟩)
  obtain ⟨W5, hW5⟩ : ∃ W5, (w3.alloc (Obj.cells #[Value.slice (some ⟨g, 0, none⟩) K c3] 25)).alloc (Obj.cells #[Value.slice (some ⟨g, 0, none⟩) K c3] 25) = W5 := ⟨_, rfl⟩
  have hb5 : Below w3.heap.size w3 W5 := by rw [← hW5]; exact ((Below.refl _ w3).alloc (Nat.le_refl _) _).alloc (by simp) _
  have o4 : W5.heap[w3.heap.size]? = some (.cells #[.slice (some ⟨g, 0, none⟩) K c3] 25 (0, 0)) := by
    rw [← hW5, heap_alloc_old _ _ _ (by simp)]; exact heap_alloc_new w3 _
  have o5 : W5.heap[w3.heap.size + 1]? = some (.cells #[.slice (some ⟨g, 0, none⟩) K c3] 25 (0, 0)) := by
    have := heap_alloc_new (w3.alloc (Obj.cells #[Value.slice (some ⟨g, 0, none⟩) K c3] 25)) (Obj.cells #[Value.slice (some ⟨g, 0, none⟩) K c3] 25)
    rw [World.size_alloc] at this; rw [← hW5]; exact this
  have hs5 : W5.heap.size = w3.heap.size + 2 := by rw [← hW5]; simp
  have c4 : W5.cell? ⟨w3.heap.size, 0, none⟩ = some (.slice (some ⟨g, 0, none⟩) K c3) := by rw [Lib.cell_of_heap o4]; rfl
  have c5 : W5.cell? ⟨w3.heap.size + 1, 0, none⟩ = some (.slice (some ⟨g, 0, none⟩) K c3) := by rw [Lib.cell_of_heap o5]; rfl
  rw [hW5]
  clear hW5
  have hglt : g < w3.heap.size := HC3.out.lt hK0
  obtain ⟨cur, fz, hob⟩ := HOB.out
  have hob5 : W5.heap[g]? = some (.cells cur 52 fz) := (hb5.block g hglt).trans hob
  have hc5 : Cells W5 g 0 K (grp z.natAbs) := HC3.out.below hb5 (.inr hglt)
  have hB5 := hB4.trans (hb5.mono hB4.size)
  have hbl5 := (Stays.of_below hb5).builder hbl4
  have hpow5 : Pow10 W5 := ht.below hB5
  obtain ⟨V, hV⟩ : ∃ V, z.natAbs = V := ⟨_, rfl⟩
  rw [hV] at HK hc5 ⊢
  have HC5 := hide hc5
  have HO := hide (And.intro o4 (And.intro o5 hob5))
  have HPW := hide hpow5
  have HCC := hide (And.intro c4 c5)
  have HBL := hide hbl5
  have HV := hide hV
  clear hc5 o4 o5 hob5 hob hpow5 c4 c5 hbl5 hbl4 hbl2 hV
  have hmx : Tryz.prog.follows .mixedOrders = true := by kernel_rfl
  refine wp_backW (w3.heap.size + 1) (some ⟨g, 0, none⟩) K c3 (by omega) rfl rfl
    (fun k W => Lib.OthersKept 5 (some w1.heap.size) W5 W ∧ Lib.IsBuilderF 66 5 w1.heap.size w1.heap.size (Lib.byteCells ([] ++ txt V K (K - k))) W ∧ Below w.heap.size w W ∧ W5.heap.size ≤ W.heap.size)
    (fun _ _ => False)
    ?hI ?hIx (fun k W h => (kept_cell h.1 HO.out.2.1 (by decide) (by omega) 0).trans HCC.out.2) ⟨Lib.OthersKept.refl _ _ _, by rw [Nat.sub_self]; simpa [txt] using HBL.out, hB5, Nat.le_refl _⟩
    (fun k v => { tmps := #[.agg #[.bool false, .slice a n cap], .pointer (some ⟨w.heap.size, 0, none⟩), .string ⟨#[]⟩, .pointer (some ⟨w1.heap.size, 0, none⟩), .pointer (some ⟨w3.heap.size, 0, none⟩), .int .i64 (k : Int), .int .u32 v, undef, .agg #[.bool false, .slice a n cap], .bool true, .bool false,
      .pointer (some ⟨w.heap.size, 0, none⟩), .bool false, undef, .pointer (some ⟨w.heap.size, 1, none⟩), .slice a n cap, .slice (some ⟨g, 0, none⟩) K c3, .slice (some ⟨g, 0, none⟩) K c3, .func (.func 81) #[] #[.pointer (some ⟨w3.heap.size + 1, 0, none⟩)], .int .i64 (k : Int), .int .u32 v,
      undef, undef, undef, undef, undef, undef, undef, undef, undef, undef, undef, undef, undef, undef, undef, undef], defers := [] })
    ?hcell ?assign ?body ?done ?stop
  case hI =>
    intro s W W' row hs hg hr
    obtain ⟨h1, h2, h3, h4⟩ := hs
    have hst : Stays W W' := fun k o hk ho => by
      rw [hg.block k (Array.getElem?_eq_some_iff.1 hk).1 (fun e => by obtain ⟨-, o', ho', hc'⟩ := hr k e.symm; rw [hk] at ho'; cases ho'; rw [ho] at hc'; cases hc')]; exact hk
    have hbw : Below W5.heap.size W W' := (Below.refl _ W).grown hg h4 (fun k e => (hr k e).1)
    refine ⟨fun k o hk hkb ho => ?_, hst.builder h2, h3.trans (hbw.mono hB5.size), Nat.le_trans h4 hbw.size⟩
    rw [hbw.block k (Array.getElem?_eq_some_iff.1 hk).1]; exact h1 k o hk hkb ho
  case hIx => exact fun _ _ _ _ h _ _ => h
  case hcell =>
    rintro k W hk ⟨h1, _, _, _⟩
    refine ⟨g, 0, _, rfl, (kept_cell h1 HO.out.2.2 (by decide) (by omega) _).trans (HC5.out k hk)⟩
  case assign =>
    intro l k v W K' hK'
    gi_wp2
    exact hK'
  case body =>
    rintro l k v b' off' W hk ⟨h1, h2, h3, h4⟩ ha hcv
    cases ha
    obtain ⟨d, hd⟩ : ∃ d, grp V k = d := ⟨_, rfl⟩
    obtain rfl : v = ((d : Nat) : Int) := by
      have := (kept_cell h1 HO.out.2.2 (by decide) (by omega) (0 + k)).trans (HC5.out k hk)
      rw [hcv, hd] at this; cases this; rfl
    have hd9 : d < 1000000000 := by rw [← hd]; exact grp_lt V k
    have hpw : Pow10 W := ht.below h3
    obtain ⟨part, hpart⟩ : ∃ part : ByteArray, (⟨(Lib.decDigits d).toArray⟩ : ByteArray) = part := ⟨_, rfl⟩
    have hps : part.size = Lib.nDigits d := by rw [← hpart]; show (Lib.decDigits d).toArray.size = _; rw [List.size_toArray, Lib.decDigits_length]
    have hp9 : part.size ≤ 9 := by rw [hps, ← hd]; exact grp_nd V k
    have hfu := formatUint_any d (by omega) W hpw
    rw [hpart] at hfu
    have HFU := hide hfu
    have HP := hide (And.intro hpart (And.intro hps hd))
    have h2k := hide h2
    have HH1 := hide h1
    have htl := txt_len V K (K - (k + 1))
    have hk2 : (k : Int) < K := by omega
    clear hfu hpart hd hps h2 h1 hpw hcv
    by_cases hlast : k + 1 < K
    · have hl2 : (k : Int) < (K : Int) - 1 := by omega
      gi_wp2_with fail
      refine ⟨trivial, ?_⟩
      gi_at_call 51
      refine (CallsIn.inRound l (callsIn_wide.2 HFU.out)).mono ?_
      rintro e W1 ⟨rfl, hbf⟩
      have h1f := kept_below HH1.out hbf
      have c4f := (kept_cell h1f HO.out.1 (by decide) (by omega) 0).trans HCC.out.1
      have hsf := hbf.size
      gi_wp2_with fail
      refine ⟨trivial, ?_⟩
      gi_at_call 53
      refine (CallsIn.inRound l (callsIn_wide.2 (Tryz.repeat_int _ _ (9 - part.size) (by omega) _ (by omega) (by show 1 * _ ≤ _; omega)))).mono ?_
      rintro e Wb ⟨rfl, hbr⟩
      have h2r := (Stays.of_below hbr).builder ((Stays.of_below hbf).builder h2k)
      have hsr := hbr.size
      have hln1 : (Lib.byteCells ([] ++ txt V K (K - (k + 1)))).length ≤ 9 * (K - (k + 1)) + 1 := by rw [Lib.byteCells_length, List.length_append]; simp <;> omega
      have hln2 : (⟨(Lib.repeatL [48] (9 - part.size)).toArray⟩ : ByteArray).size ≤ 9 := by show (Lib.repeatL [48] (9 - part.size)).toArray.size ≤ 9; rw [List.size_toArray, Lib.repeatL_length]; simp <;> omega
      gi_wp2_with fail
      refine ⟨trivial, ?_⟩
      gi_at_call 52
      refine (CallsIn.inRound l (callsIn_wide.2 (Tryz.write_string_k w1.heap.size w1.heap.size _ _ Wb h2r (by show _ + _ ≤ _; omega) (by omega)))).mono ?_
      rintro e Wc ⟨rfl, hbw, hBw, hkw⟩
      have hsw := hBw.size
      gi_wp2_with fail
      refine ⟨trivial, ?_⟩
      gi_at_call 52
      refine (CallsIn.inRound l (callsIn_wide.2 (Tryz.write_string_k w1.heap.size w1.heap.size _ part Wc (.inr hbw) (by rw [List.length_append, Lib.strCells_length]; omega) (by omega)))).mono ?_
      rintro e Wd ⟨rfl, hbx, hBx, hkx⟩
      gi_wp2
      have hkk : Lib.OthersKept 5 (some w1.heap.size) W Wd := ((kept_below (kept_below (Lib.OthersKept.refl _ _ _) hbf) hbr).trans hkw).trans hkx
      have hsd : W.heap.size ≤ Wd.heap.size := by have := hBx.size; omega
      refine ⟨kept_from hkk (by omega) hsd, HH1.out.trans hkk, .inr ?_, (((h3.trans (hbf.mono (by omega))).trans (hbr.mono (by omega))).trans (hBw.mono (by omega))).trans (hBx.mono (by omega)), by omega⟩
      rw [text_step [] V K k hk d HP.out.2.2 part HP.out.1 HP.out.2.1, if_pos hlast]
      exact hbx
    · have hl2 : ¬ (k : Int) < (K : Int) - 1 := by omega
      gi_wp2_with fail
      refine ⟨trivial, ?_⟩
      gi_at_call 51
      refine (CallsIn.inRound l (callsIn_wide.2 HFU.out)).mono ?_
      rintro e W1 ⟨rfl, hbf⟩
      have h1f := kept_below HH1.out hbf
      have c4f := (kept_cell h1f HO.out.1 (by decide) (by omega) 0).trans HCC.out.1
      have hsf := hbf.size
      have h2r := (Stays.of_below hbf).builder h2k
      have hln1 : (Lib.byteCells ([] ++ txt V K (K - (k + 1)))).length ≤ 9 * (K - (k + 1)) + 1 := by rw [Lib.byteCells_length, List.length_append]; simp <;> omega
      gi_wp2_with fail
      refine ⟨trivial, ?_⟩
      gi_at_call 52
      refine (CallsIn.inRound l (callsIn_wide.2 (Tryz.write_string_k w1.heap.size w1.heap.size _ part W1 h2r (by omega) (by omega)))).mono ?_
      rintro e Wd ⟨rfl, hbx, hBx, hkx⟩
      gi_wp2
      have hkk : Lib.OthersKept 5 (some w1.heap.size) W Wd := (kept_below (Lib.OthersKept.refl _ _ _) hbf).trans hkx
      have hsd : W.heap.size ≤ Wd.heap.size := by have := hBx.size; omega
      refine ⟨kept_from hkk (by omega) hsd, HH1.out.trans hkk, .inr ?_, (h3.trans (hbf.mono (by omega))).trans (hBx.mono (by omega)), by omega⟩
      rw [text_step [] V K k hk d HP.out.2.2 part HP.out.1 HP.out.2.1, if_neg hlast, List.append_nil]
      exact hbx
  case done =>
    rintro D W hD ⟨h1, h2, h3, h4⟩ hK
    rw [Nat.sub_zero] at h2
    have HK1 := hide hK
    have HP1 := hide h1
    clear hK h1
    go_wp2_with fail
    refine (Tryz.Builder_String_any_k w1.heap.size w1.heap.size ([] ++ txt V K K) W h2 (by omega)).mono ?_
    rintro e W' ⟨rfl, -, hBs, hks⟩
    have hK' : W'.heap[D]? = some (.deferred (some [])) := hks D _ HK1.out (fun e => by cases e; omega) (fun c f e => by cases e)
    go_wp2
    have hc := calm_put (.deferred none) hD hK' rfl
    exact leavesM_one hK' ⟨_, results_tmp rfl _ _ _, ⟨K, hK0, by rw [HV.out]; exact HK.out.1, by rw [HV.out]; exact HK.out.2, by rw [HV.out]; rfl, (h3.trans (hBs.mono (by omega))).trans (hc.below.mono (by omega))⟩⟩
  case stop => exact fun _ _ _ _ h _ => h.elim


set_option maxRecDepth 100000 in
set_option maxHeartbeats 8000000 in
theorem text_neg (a : Option Addr) (n cap : Nat) (z : Int) (hn0 : 0 < n) (hn : n ≤ 64) (w : World) (ht : Pow10 w) (h : IsN w true a n z) :
    Calls Tryz.prog 20 #[.agg #[.bool true, .slice a n cap]] w (TextPost w [45] z.natAbs) := by
  refine calls_marks Tryz.func20 rfl ?_
  simp only [Tryz.ntmps20, List.size_toArray, List.length_cons, List.length_nil, Nat.reduceAdd, Nat.reduceSub, Array.replicate_succ, Array.replicate_zero, List.push_toArray, List.append_toArray, List.nil_append, List.cons_append]
  go_wp2_with fail
  obtain ⟨W0, hW0⟩ : ∃ W0, w.alloc (Obj.cells #[Value.bool true, Value.slice a n cap] 27) = W0 := ⟨_, rfl⟩
  have bA : Box2 W0 w.heap.size (.bool true) (.slice a n cap) := by rw [← hW0]; exact Box2.new w _ _ _
  have hB0 : Below w.heap.size w W0 := by rw [← hW0]; exact (Below.refl _ w).alloc (Nat.le_refl _) _
  rw [hW0]
  clear hW0
  refine (right_yes true a n cap z hn _ (h.below hB0)).mono ?_
  rintro e w1 ⟨rfl, hb1⟩
  have hB1 := hB0.trans (hb1.mono hB0.size)
  have bA1 := bA.below hb1 bA.lt
  have bA1k := bA1
  have hlt1 := bA1.lt
  obtain ⟨a0, a1, -, -⟩ := bA1
  go_wp2_with fail
  obtain ⟨W2, hW2⟩ : ∃ W2, w1.alloc (Obj.cells #[Value.pointer none, Value.slice none 0 0] 66) = W2 := ⟨_, rfl⟩
  have hb2 : Below w1.heap.size w1 W2 := by rw [← hW2]; exact (Below.refl _ w1).alloc (Nat.le_refl _) _
  have hbl2 : Lib.IsBuilderF 66 5 w1.heap.size w1.heap.size (Lib.byteCells []) W2 := by
    rw [← hW2]; exact .inl ⟨Nat.le_refl _, .slice none 0 0, heap_alloc_new w1 _, World.ownsRowF_nil _ _ _ _, by simp [Value.ownBlock]⟩
  have hs2 : W2.heap.size = w1.heap.size + 1 := by rw [← hW2]; exact World.size_alloc _ _
  have hB2 := hB1.trans (hb2.mono hB1.size)
  rw [hW2]
  clear hW2 a0 a1
  have bA2 := bA1k.below hb2 hlt1
  refine (Tryz.write_byte_k w1.heap.size w1.heap.size _ 45 W2 hbl2 (by simp [Lib.byteCells]) (by omega)).mono ?_
  rintro e Wn ⟨rfl, hbn, hBn, hkn⟩
  have hB2o := hB2
  have hsn := hBn.size
  obtain ⟨a0, a1, -, -⟩ := bA2.below hBn hlt1
  have HBN := hide hbn
  clear hbn hkn
  go_wp2_with fail
  have hB2 : Below w.heap.size w Wn := hB2o.trans (hBn.mono (by omega))
  have hbl2 : Lib.IsBuilderF 66 5 w1.heap.size w1.heap.size (Lib.byteCells [45]) Wn := .inr HBN.out
  clear a0 a1
  have hd2 : IsD Wn a n z.natAbs := h.dig.below hB2
  refine (groups_any a n cap z.natAbs hn0 hn Wn hd2).mono ?_
  rintro e w3 ⟨g, K, c3, rfl, hK0, hK, hKz, hKp, hc3, hg3, hob3, hb3⟩
  have hB4 := hB2.trans (hb3.mono hB2.size)
  have hbl4 := (Stays.of_below hb3).builder hbl2
  have hs4 := hb3.size
  have HK := hide (And.intro hKz hKp)
  have HOB := hide hob3
  have HC3 := hide hc3
  clear hKz hKp hob3 hc3 hd2
  go_wp2_with (go_at_call 50; refine (backward_any _ _ _ _).mono ?_; rintro e w' ⟨rfl, rfl⟩)
  obtain ⟨W5, hW5⟩ : ∃ W5, (w3.alloc (Obj.cells #[Value.slice (some ⟨g, 0, none⟩) K c3] 25)).alloc (Obj.cells #[Value.slice (some ⟨g, 0, none⟩) K c3] 25) = W5 := ⟨_, rfl⟩
  have hb5 : Below w3.heap.size w3 W5 := by rw [← hW5]; exact ((Below.refl _ w3).alloc (Nat.le_refl _) _).alloc (by simp) _
  have o4 : W5.heap[w3.heap.size]? = some (.cells #[.slice (some ⟨g, 0, none⟩) K c3] 25 (0, 0)) := by
    rw [← hW5, heap_alloc_old _ _ _ (by simp)]; exact heap_alloc_new w3 _
  have o5 : W5.heap[w3.heap.size + 1]? = some (.cells #[.slice (some ⟨g, 0, none⟩) K c3] 25 (0, 0)) := by
    have := heap_alloc_new (w3.alloc (Obj.cells #[Value.slice (some ⟨g, 0, none⟩) K c3] 25)) (Obj.cells #[Value.slice (some ⟨g, 0, none⟩) K c3] 25)
    rw [World.size_alloc] at this; rw [← hW5]; exact this
  have hs5 : W5.heap.size = w3.heap.size + 2 := by rw [← hW5]; simp
  have c4 : W5.cell? ⟨w3.heap.size, 0, none⟩ = some (.slice (some ⟨g, 0, none⟩) K c3) := by rw [Lib.cell_of_heap o4]; rfl
  have c5 : W5.cell? ⟨w3.heap.size + 1, 0, none⟩ = some (.slice (some ⟨g, 0, none⟩) K c3) := by rw [Lib.cell_of_heap o5]; rfl
  rw [hW5]
  clear hW5
  have hglt : g < w3.heap.size := HC3.out.lt hK0
  obtain ⟨cur, fz, hob⟩ := HOB.out
  have hob5 : W5.heap[g]? = some (.cells cur 52 fz) := (hb5.block g hglt).trans hob
  have hc5 : Cells W5 g 0 K (grp z.natAbs) := HC3.out.below hb5 (.inr hglt)
  have hB5 := hB4.trans (hb5.mono hB4.size)
  have hbl5 := (Stays.of_below hb5).builder hbl4
  have hpow5 : Pow10 W5 := ht.below hB5
  obtain ⟨V, hV⟩ : ∃ V, z.natAbs = V := ⟨_, rfl⟩
  rw [hV] at HK hc5 ⊢
  have HC5 := hide hc5
  have HO := hide (And.intro o4 (And.intro o5 hob5))
  have HPW := hide hpow5
  have HCC := hide (And.intro c4 c5)
  have HBL := hide hbl5
  have HV := hide hV
  clear hc5 o4 o5 hob5 hob hpow5 c4 c5 hbl5 hbl4 hbl2 hV
  have hmx : Tryz.prog.follows .mixedOrders = true := by kernel_rfl
  refine wp_backW (w3.heap.size + 1) (some ⟨g, 0, none⟩) K c3 (by omega) rfl rfl
    (fun k W => Lib.OthersKept 5 (some w1.heap.size) W5 W ∧ Lib.IsBuilderF 66 5 w1.heap.size w1.heap.size (Lib.byteCells ([45] ++ txt V K (K - k))) W ∧ Below w.heap.size w W ∧ W5.heap.size ≤ W.heap.size)
    (fun _ _ => False)
    ?hI ?hIx (fun k W h => (kept_cell h.1 HO.out.2.1 (by decide) (by omega) 0).trans HCC.out.2) ⟨Lib.OthersKept.refl _ _ _, by rw [Nat.sub_self]; simpa [txt] using HBL.out, hB5, Nat.le_refl _⟩
    (fun k v => { tmps := #[.agg #[.bool true, .slice a n cap], .pointer (some ⟨w.heap.size, 0, none⟩), .string ⟨#[]⟩, .pointer (some ⟨w1.heap.size, 0, none⟩), .pointer (some ⟨w3.heap.size, 0, none⟩), .int .i64 (k : Int), .int .u32 v, undef, .agg #[.bool true, .slice a n cap], .bool true, .bool false,
      .pointer (some ⟨w.heap.size, 0, none⟩), .bool true, .nilIface, .pointer (some ⟨w.heap.size, 1, none⟩), .slice a n cap, .slice (some ⟨g, 0, none⟩) K c3, .slice (some ⟨g, 0, none⟩) K c3, .func (.func 81) #[] #[.pointer (some ⟨w3.heap.size + 1, 0, none⟩)], .int .i64 (k : Int), .int .u32 v,
      undef, undef, undef, undef, undef, undef, undef, undef, undef, undef, undef, undef, undef, undef, undef, undef], defers := [] })
    ?hcell ?assign ?body ?done ?stop
  case hI =>
    intro s W W' row hs hg hr
    obtain ⟨h1, h2, h3, h4⟩ := hs
    have hst : Stays W W' := fun k o hk ho => by
      rw [hg.block k (Array.getElem?_eq_some_iff.1 hk).1 (fun e => by obtain ⟨-, o', ho', hc'⟩ := hr k e.symm; rw [hk] at ho'; cases ho'; rw [ho] at hc'; cases hc')]; exact hk
    have hbw : Below W5.heap.size W W' := (Below.refl _ W).grown hg h4 (fun k e => (hr k e).1)
    refine ⟨fun k o hk hkb ho => ?_, hst.builder h2, h3.trans (hbw.mono hB5.size), Nat.le_trans h4 hbw.size⟩
    rw [hbw.block k (Array.getElem?_eq_some_iff.1 hk).1]; exact h1 k o hk hkb ho
  case hIx => exact fun _ _ _ _ h _ _ => h
  case hcell =>
    rintro k W hk ⟨h1, _, _, _⟩
    refine ⟨g, 0, _, rfl, (kept_cell h1 HO.out.2.2 (by decide) (by omega) _).trans (HC5.out k hk)⟩
  case assign =>
    intro l k v W K' hK'
    gi_wp2
    exact hK'
  case body =>
    rintro l k v b' off' W hk ⟨h1, h2, h3, h4⟩ ha hcv
    cases ha
    obtain ⟨d, hd⟩ : ∃ d, grp V k = d := ⟨_, rfl⟩
    obtain rfl : v = ((d : Nat) : Int) := by
      have := (kept_cell h1 HO.out.2.2 (by decide) (by omega) (0 + k)).trans (HC5.out k hk)
      rw [hcv, hd] at this; cases this; rfl
    have hd9 : d < 1000000000 := by rw [← hd]; exact grp_lt V k
    have hpw : Pow10 W := ht.below h3
    obtain ⟨part, hpart⟩ : ∃ part : ByteArray, (⟨(Lib.decDigits d).toArray⟩ : ByteArray) = part := ⟨_, rfl⟩
    have hps : part.size = Lib.nDigits d := by rw [← hpart]; show (Lib.decDigits d).toArray.size = _; rw [List.size_toArray, Lib.decDigits_length]
    have hp9 : part.size ≤ 9 := by rw [hps, ← hd]; exact grp_nd V k
    have hfu := formatUint_any d (by omega) W hpw
    rw [hpart] at hfu
    have HFU := hide hfu
    have HP := hide (And.intro hpart (And.intro hps hd))
    have h2k := hide h2
    have HH1 := hide h1
    have htl := txt_len V K (K - (k + 1))
    have hk2 : (k : Int) < K := by omega
    clear hfu hpart hd hps h2 h1 hpw hcv
    by_cases hlast : k + 1 < K
    · have hl2 : (k : Int) < (K : Int) - 1 := by omega
      gi_wp2_with fail
      refine ⟨trivial, ?_⟩
      gi_at_call 51
      refine (CallsIn.inRound l (callsIn_wide.2 HFU.out)).mono ?_
      rintro e W1 ⟨rfl, hbf⟩
      have h1f := kept_below HH1.out hbf
      have c4f := (kept_cell h1f HO.out.1 (by decide) (by omega) 0).trans HCC.out.1
      have hsf := hbf.size
      gi_wp2_with fail
      refine ⟨trivial, ?_⟩
      gi_at_call 53
      refine (CallsIn.inRound l (callsIn_wide.2 (Tryz.repeat_int _ _ (9 - part.size) (by omega) _ (by omega) (by show 1 * _ ≤ _; omega)))).mono ?_
      rintro e Wb ⟨rfl, hbr⟩
      have h2r := (Stays.of_below hbr).builder ((Stays.of_below hbf).builder h2k)
      have hsr := hbr.size
      have hln1 : (Lib.byteCells ([45] ++ txt V K (K - (k + 1)))).length ≤ 9 * (K - (k + 1)) + 1 := by rw [Lib.byteCells_length, List.length_append]; simp <;> omega
      have hln2 : (⟨(Lib.repeatL [48] (9 - part.size)).toArray⟩ : ByteArray).size ≤ 9 := by show (Lib.repeatL [48] (9 - part.size)).toArray.size ≤ 9; rw [List.size_toArray, Lib.repeatL_length]; simp <;> omega
      gi_wp2_with fail
      refine ⟨trivial, ?_⟩
      gi_at_call 52
      refine (CallsIn.inRound l (callsIn_wide.2 (Tryz.write_string_k w1.heap.size w1.heap.size _ _ Wb h2r (by show _ + _ ≤ _; omega) (by omega)))).mono ?_
      rintro e Wc ⟨rfl, hbw, hBw, hkw⟩
      have hsw := hBw.size
      gi_wp2_with fail
      refine ⟨trivial, ?_⟩
      gi_at_call 52
      refine (CallsIn.inRound l (callsIn_wide.2 (Tryz.write_string_k w1.heap.size w1.heap.size _ part Wc (.inr hbw) (by rw [List.length_append, Lib.strCells_length]; omega) (by omega)))).mono ?_
      rintro e Wd ⟨rfl, hbx, hBx, hkx⟩
      gi_wp2
      have hkk : Lib.OthersKept 5 (some w1.heap.size) W Wd := ((kept_below (kept_below (Lib.OthersKept.refl _ _ _) hbf) hbr).trans hkw).trans hkx
      have hsd : W.heap.size ≤ Wd.heap.size := by have := hBx.size; omega
      refine ⟨kept_from hkk (by omega) hsd, HH1.out.trans hkk, .inr ?_, (((h3.trans (hbf.mono (by omega))).trans (hbr.mono (by omega))).trans (hBw.mono (by omega))).trans (hBx.mono (by omega)), by omega⟩
      rw [text_step [45] V K k hk d HP.out.2.2 part HP.out.1 HP.out.2.1, if_pos hlast]
      exact hbx
    · have hl2 : ¬ (k : Int) < (K : Int) - 1 := by omega
      gi_wp2_with fail
      refine ⟨trivial, ?_⟩
      gi_at_call 51
      refine (CallsIn.inRound l (callsIn_wide.2 HFU.out)).mono ?_
      rintro e W1 ⟨rfl, hbf⟩
      have h1f := kept_below HH1.out hbf
      have c4f := (kept_cell h1f HO.out.1 (by decide) (by omega) 0).trans HCC.out.1
      have hsf := hbf.size
      have h2r := (Stays.of_below hbf).builder h2k
      have hln1 : (Lib.byteCells ([45] ++ txt V K (K - (k + 1)))).length ≤ 9 * (K - (k + 1)) + 1 := by rw [Lib.byteCells_length, List.length_append]; simp <;> omega
      gi_wp2_with fail
      refine ⟨trivial, ?_⟩
      gi_at_call 52
      refine (CallsIn.inRound l (callsIn_wide.2 (Tryz.write_string_k w1.heap.size w1.heap.size _ part W1 h2r (by omega) (by omega)))).mono ?_
      rintro e Wd ⟨rfl, hbx, hBx, hkx⟩
      gi_wp2
      have hkk : Lib.OthersKept 5 (some w1.heap.size) W Wd := (kept_below (Lib.OthersKept.refl _ _ _) hbf).trans hkx
      have hsd : W.heap.size ≤ Wd.heap.size := by have := hBx.size; omega
      refine ⟨kept_from hkk (by omega) hsd, HH1.out.trans hkk, .inr ?_, (h3.trans (hbf.mono (by omega))).trans (hBx.mono (by omega)), by omega⟩
      rw [text_step [45] V K k hk d HP.out.2.2 part HP.out.1 HP.out.2.1, if_neg hlast, List.append_nil]
      exact hbx
  case done =>
    rintro D W hD ⟨h1, h2, h3, h4⟩ hK
    rw [Nat.sub_zero] at h2
    have HK1 := hide hK
    have HP1 := hide h1
    clear hK h1
    go_wp2_with fail
    refine (Tryz.Builder_String_any_k w1.heap.size w1.heap.size ([45] ++ txt V K K) W h2 (by omega)).mono ?_
    rintro e W' ⟨rfl, -, hBs, hks⟩
    have hK' : W'.heap[D]? = some (.deferred (some [])) := hks D _ HK1.out (fun e => by cases e; omega) (fun c f e => by cases e)
    go_wp2
    have hc := calm_put (.deferred none) hD hK' rfl
    exact leavesM_one hK' ⟨_, results_tmp rfl _ _ _, ⟨K, hK0, by rw [HV.out]; exact HK.out.1, by rw [HV.out]; exact HK.out.2, by rw [HV.out]; rfl, (h3.trans (hBs.mono (by omega))).trans (hc.below.mono (by omega))⟩⟩
  case stop => exact fun _ _ _ _ h _ => h.elim

end Go.Proofs.YtmpdeiopdempcaaGreatDoor
