/- The evaluator speaks true of operations, second part: values, loads, stores, parts. -/
import Derived.Test.YtjeenfnfkndgaaaZI
namespace Go.Sz
open Go Go.RowKit
noncomputable section
section
variable {P : Program} {T : Tab} {η : Env} {ρ ρ' : Plc} {w w' : World} {Z Z' : Nat → Prop} {ev : Operand → Option SV} {bk : BK} {E : Operand → Value} {p : Nat → Bool} {nid : Nat} {o : Oper} {e : Eff} {q : List X} {pc : PC}
  {dst : Option Tmp} {ty : TypeId} {pos : String} {aft : Array Edge} {gd : Option (Nat × Bool)}
theorem Good.put (hs : Sees T η ρ w Z ev bk E p) {ws : Ws} (hr : Rows bk ws) {v : SV} {v' : Value} (hrun : (execOp E o).run P w = .ok (.value v') w) (hv : v.V T η ρ w (frzZ ρ Z ws) v') : Good P T η ρ w Z bk E nid o { v, wr := ws } :=
  ⟨by unfold Does; rw [hrun]; exact ⟨ρ, _, Did.frz hs hr hv⟩, hr.alive⟩
theorem ePick_good (hs : Sees T η ρ w Z ev bk E p) (hpc : pc.ok T η) {c a b : Operand} (h : ePick pc ev c a b = some (e, q)) : Good P T η ρ w Z bk E nid ⟨dst, .pick c a b, ty, pos, aft, gd⟩ e := by
  unfold ePick at h
  split at h
  · rename_i x hx
    have hc := (hs.one hx).1
    simp only [Sc.V] at hc
    split at h
    · rename_i hd
      obtain ⟨v, hv, h⟩ := bind_eq h
      obtain rfl := okv_eq h
      exact Good.val hs (by simp [execOp, hc, asBool, dec_ok hpc hd]) (hs.ev _ _ hv)
    · rename_i hd
      obtain ⟨v, hv, h⟩ := bind_eq h
      obtain rfl := okv_eq h
      exact Good.val hs (by simp [execOp, hc, asBool, dec_ok hpc hd]) (hs.ev _ _ hv)
    · cases h
  · cases h
theorem eAlloc_good (hs : Sees T η ρ w Z ev bk E p) (hn : p nid = false) {t : TypeId} (h : eAlloc P nid t = some (e, q)) : Good P T η ρ w Z bk E nid ⟨dst, .alloc t, ty, pos, aft, gd⟩ e := by
  unfold eAlloc at h
  simp only [Option.map_eq_some_iff, Prod.mk.injEq] at h
  obtain ⟨z, hz, rfl, rfl⟩ := h
  obtain ⟨v, hr, hV, hI⟩ := run_zero hz w
  obtain ⟨vs, h1, h2⟩ := S1.V.cells (hV T η ρ w Z)
  refine ⟨?_, nofun⟩
  have hrun : (execOp E ⟨dst, .alloc t, ty, pos, aft, gd⟩).run P w = .ok (.value (.pointer (some ⟨w.heap.size, 0, none⟩))) (w.alloc (.cells vs.toArray t)) := by
    simp [execOp, Instr.alloc, hr, newVar, newRow, h1]
  unfold Does
  rw [hrun]
  refine ⟨_, _, Did.new (cap := 0) (len := 0) hs (ws := []) nofun hn ⟨by rw [newPl_self], by rw [newPl_self]⟩ ?_⟩
  rw [frz_nil]
  exact box_V (p := p) h2 (hI p) hn hs.mem.zlt
theorem eBox_good (hs : Sees T η ρ w Z ev bk E p) (hn : p nid = false) {t : TypeId} {x : Operand} (h : eBox ev nid x = some (e, q)) : Good P T η ρ w Z bk E nid ⟨dst, .box t x, ty, pos, aft, gd⟩ e := by
  unfold eBox at h
  split at h
  · rename_i v hv
    simp at h
    obtain ⟨rfl, rfl⟩ := h
    obtain ⟨vs, h1, h2⟩ := S1.V.cells (hs.ev _ _ hv)
    refine ⟨?_, nofun⟩
    have hrun : (execOp E ⟨dst, .box t x, ty, pos, aft, gd⟩).run P w = .ok (.value (.pointer (some ⟨w.heap.size, 0, none⟩))) (w.alloc (.cells vs.toArray t)) := by
      simp [execOp, Instr.box, newVar, newRow, h1]
    unfold Does
    rw [hrun]
    refine ⟨_, _, Did.new (cap := 0) (len := 0) hs (ws := []) nofun hn ⟨by rw [newPl_self], by rw [newPl_self]⟩ ?_⟩
    rw [frz_nil]
    exact box_V (p := p) h2 (by simpa [SV.ids, S1.ids] using hs.evp _ _ hv) hn hs.mem.zlt
  · cases h
theorem eBuild_good (hs : Sees T η ρ w Z ev bk E p) {t : TypeId} {parts : Array (Nat × Operand)} (h : eBuild P ev t parts = some (e, q)) : Good P T η ρ w Z bk E nid ⟨dst, .build t parts, ty, pos, aft, gd⟩ e := by
  unfold eBuild at h
  split at h
  · rename_i z fields ps hz hu hps
    split at h
    · rename_i pl hpl
      obtain ⟨l, hl, h⟩ := bind_eq h
      obtain rfl := okv_eq h
      obtain ⟨v, hr, hV, hI⟩ := run_zero hz w
      obtain ⟨vs, h1, h2⟩ := S1.V.cells (hV T η ρ w Z)
      obtain ⟨us, g1, g2, -⟩ := fill_V (p := p) hl h2 (hI p) (evParts_V hs hps)
      have hm := run_placesS hpl w
      simp only [bind_pure_comp] at hm
      refine Good.val hs (v' := .agg us.toArray) ?_ ⟨us, rfl, g2⟩
      simp only [execOp, Instr.build, Sem.run_bind, hr, Result.andThen_ok, run_underlying hu, Array.mapM_eq_mapM_toList, bind_pure_comp, Sem.run_map, hm]
      simp only [Array.toList_map, h1]
      have : (fun x : Nat => pl.toArray[x]?) = (fun x : Nat => pl[x]?) := by funext x; simp
      simp only [this]
      rw [show (List.map (fun x => (x.fst, E x.snd)) parts.toList) = parts.toList.map (fun q => (q.1, E q.2)) from rfl, g1]
      simp
    · cases h
  · rename_i z n elem ps hz hu hps
    split at h
    · rename_i m hm
      obtain ⟨l, hl, h⟩ := bind_eq h
      obtain rfl := okv_eq h
      obtain ⟨v, hr, hV, hI⟩ := run_zero hz w
      obtain ⟨vs, h1, h2⟩ := S1.V.cells (hV T η ρ w Z)
      obtain ⟨us, g1, g2, -⟩ := fill_V (p := p) hl h2 (hI p) (evParts_V hs hps)
      refine Good.val hs (v' := .agg us.toArray) ?_ ⟨us, rfl, g2⟩
      simp only [execOp, Instr.build, Sem.run_bind, hr, Result.andThen_ok, run_underlying hu, run_size hm]
      simp only [Array.toList_map, h1]
      rw [show (List.map (fun x => (x.fst, E x.snd)) parts.toList) = parts.toList.map (fun q => (q.1, E q.2)) from rfl, g1]
      simp
    · cases h
  · cases h
theorem eBuildSlice_good (hs : Sees T η ρ w Z ev bk E p) (hn : p nid = false) {t : TypeId} {len : Nat} {parts : Array (Nat × Operand)} (h : eBuildSlice P ev bk nid t len parts = some (e, q)) : Good P T η ρ w Z bk E nid ⟨dst, .buildSlice t len parts, ty, pos, aft, gd⟩ e := by
  unfold eBuildSlice at h
  split at h
  · rename_i elem ps hu hps
    split at h
    · rename_i n z ck hn' hz hck
      split at h
      · rename_i hc
        obtain ⟨l, hl, h⟩ := bind_eq h
        simp only [Option.map_eq_some_iff, Prod.mk.injEq] at h
        obtain ⟨⟨x, ws⟩, hp, rfl, rfl⟩ := h
        obtain ⟨hc1, hc2, hc3, hc4⟩ := hc
        obtain ⟨v, hr, hV, hI⟩ := run_zero hz w
        obtain ⟨vs, h1, h2⟩ := S1.V.cells (hV T η ρ w Z)
        have hvl : vs.length = n := by rw [h2.len, hc1]
        have hn0 : 0 < n := Nat.pos_of_mul_pos_left hc3
        have hall : (List.replicate len z.cells).flatten.all (Sc.ids p) = true := by
          rw [List.all_eq_true]
          intro c hc
          rw [List.mem_flatten] at hc
          obtain ⟨l', hl', hc⟩ := hc
          rw [List.eq_of_mem_replicate hl'] at hc
          exact List.all_eq_true.1 (hI p) c hc
        obtain ⟨us, g1, g2, -, g4⟩ := fill_V (p := p) hl (VL.rep h2 len) hall (evParts_V hs hps)
        have hul : us.length = len * n := by rw [g2.len, g4]; simp [hc1]
        have hrow : (Array.range (len * n)).map (fun i => vs.toArray[i % vs.toArray.size]!) = ((List.replicate len vs).flatten).toArray := by
          have := range_mod vs n hvl hn0 len
          apply Array.ext'
          simpa [hvl] using this
        have h16 : ¬ (len * n > 2 ^ 24) := by omega
        have h0 : ¬ (len * n = 0) := by omega
        have hrun : (execOp E ⟨dst, .buildSlice t len parts, ty, pos, aft, gd⟩).run P w = .ok (.value (.slice (some ⟨w.heap.size, 0, none⟩) len len)) (w.alloc (.cells us.toArray elem)) := by
          simp only [execOp, Instr.buildSlice, Sem.run_bind, run_underlying hu, Result.andThen_ok, run_size hn', if_neg h16, if_neg h0, hr, Sem.run_pure, h1, hrow, Array.toList_map]
          rw [show (List.map (fun x => (x.fst, E x.snd)) parts.toList) = parts.toList.map (fun q => (q.1, E q.2)) from rfl, g1]
          simp [newRow]
        have hrows := packE_rows hp
        refine ⟨?_, hrows.alive⟩
        unfold Does
        rw [hrun]
        refine ⟨_, _, Did.new (cap := len) (len := len) hs hrows hn ?_ ?_⟩
        · show _ = _
          rw [newPl_self]; rfl
        · obtain ⟨r1, r2⟩ := packE_R hs.mem.bk (fun g hg => Or.inl hg) hp g2 (frz_kept ρ Z ws)
          refine row_V r1 hc2 hn0 hul ?_ r2 (frz_lt hs hrows)
          have : len ≤ len * n := Nat.le_mul_of_pos_right len hn0
          simp only [maxLen]; omega
      · cases h
    · cases h
  · cases h
/-- an element of a row -/
theorem row_cells {t : TypeId} {ck : CK} {x : X} {r : Pl} (h : (Blk.row t ck x).V T η ρ w Z r) {m : Nat} (hm : m < (x.d T η).len) :
    ∃ us, us.length = ck.size ∧ R w Z ck ((x.d T η).get m) us ∧ At w r.b (m * ck.size) us ∧ r.nil = false := by
  obtain ⟨h1, h2, vs, h3, h4⟩ := h
  obtain ⟨us, g1, g2, g3⟩ := h4 m hm
  rcases h3.2 with ⟨h5, h6⟩ | ⟨g, cap, cur, e1, h6, h7, h8, -⟩
  · omega
  · have hg : r.nil = false ∧ r.b = g := by
      unfold Pl.hdr at e1
      split at e1
      · cases e1
      · rename_i hn
        simp only [Value.slice.injEq, Option.some.injEq, Addr.mk.injEq] at e1
        exact ⟨by simpa using hn, e1.1.1⟩
    refine ⟨us, g1, g2, fun j v hv => ?_, hg.1⟩
    have := h3.cells (g := g) (by rw [e1]; rfl) _ _ (g3 j v hv)
    rw [add_adr] at this
    rw [hg.2]; simpa using this
theorem At.part {b o n : Nat} {vs : List Value} (h : At w b o vs) (off : Nat) : At w b (o + off) ((vs.drop off).take n) := fun j v hv => by
  rw [List.getElem?_take] at hv
  split at hv
  · rw [List.getElem?_drop] at hv
    have := h _ _ hv
    rw [← Nat.add_assoc] at this
    exact this
  · cases hv
theorem cellsAt_V (hb : BKV T η ρ w Z bk) {n : Nat} {c : Sc} {l : List Sc} {v : Value} (h : cellsAt bk n c = some (l, q)) (hc : c.V T η ρ w Z v) (hq : ∀ y ∈ q, (y.d T η).bool = true) :
    ∃ b o vs, v = .pointer (some ⟨b, o, none⟩) ∧ vs.length = n ∧ At w b o vs ∧ VL T η ρ w Z l vs := by
  unfold cellsAt at h
  split at h
  · rename_i id off
    split at h
    · rename_i cs hbk
      split at h
      · rename_i hle
        simp at h; obtain ⟨rfl, rfl⟩ := h
        obtain ⟨h1, h2, vs, h3, h4⟩ := hb _ _ hbk
        obtain ⟨-, rfl⟩ := hc
        refine ⟨_, _, (vs.drop off).take n, rfl, by simp [h3.len]; omega, At.part (fun j v hv => (h4 j v hv).1) off, VL.take n (VL.drop off h3)⟩
      · cases h
    · cases h
  · rename_i id sz x off
    split at h
    · rename_i t ck c hbk
      split at h
      · rename_i hle
        simp only [Option.map_eq_some_iff, Prod.mk.injEq] at h
        obtain ⟨l0, hu, rfl, rfl⟩ := h
        have hq := needs_mem hq
        have q1 := le_of (hq (mk2 .le (.lit (.i 0)) x) (by simp))
        have q2 := lt_of (hq (mk2 .lt x (mk1 .len c)) (by simp))
        simp only [X.d, D.int_i, mk1_d, den1] at q1 q2
        simp only [Sc.V] at hc; subst hc
        obtain ⟨us, g1, g2, g3, -⟩ := row_cells (hb _ _ hbk) (m := (x.d T η).int.toNat) (by omega)
        have hv := unpack_V (T := T) (η := η) (ρ := ρ) hu (us := us) (by rw [D.drop_zero, mk2_d]; exact g2)
        refine ⟨_, _, (us.drop off).take n, rfl, by simp [g1]; omega, ?_, VL.take n (VL.drop off hv)⟩
        rw [← hle.1]
        exact At.part g3 off
      · cases h
    · cases h
  · rename_i ks x
    split at h
    · rename_i hle
      simp only [Option.map_eq_some_iff, Prod.mk.injEq] at h
      obtain ⟨l0, hu, rfl, rfl⟩ := h
      obtain ⟨b, o, us, rfl, -, g1, g2, g3⟩ := hc
      have hv := unpack_V (T := T) (η := η) (ρ := ρ) hu (us := us) (by rw [D.drop_zero]; exact g3)
      exact ⟨b, o, us.take n, rfl, by simp [g1]; omega, by simpa using At.part (n := n) g2 0, VL.take n hv⟩
    · cases h
  · cases h
theorem At.load {b o : Nat} {vs : List Value} (h : At w b o vs) : (loadCells ⟨b, o, none⟩ vs.length).run P w = .ok vs.toArray w := run_loadCells_list (P := P) w ⟨b, o, none⟩ vs (fun j v hv => by rw [add_adr]; exact h j v hv)
theorem eLoad_good (hs : Sees T η ρ w Z ev bk E p) {t : TypeId} {a : Operand} (h : eLoad P ev bk t a = some (e, q)) (hq : ∀ y ∈ q, (y.d T η).bool = true) : Good P T η ρ w Z bk E nid ⟨dst, .load t a, ty, pos, aft, gd⟩ e := by
  unfold eLoad at h
  split at h
  · rename_i c n ha hg hsz
    split at h
    · cases h
    · simp only [Option.map_eq_some_iff, Prod.mk.injEq] at h
      obtain ⟨⟨l, q'⟩, hc, rfl, rfl⟩ := h
      obtain ⟨b, o, vs, h1, h2, h3, h4⟩ := cellsAt_V hs.mem.bk hc (hs.one ha).1 hq
      refine Good.val hs (v' := .agg vs.toArray) ?_ ⟨vs, rfl, h4⟩
      have := h3.load (P := P)
      rw [h2] at this
      simp [execOp, Instr.loadAt, h1, Instr.sureAddr, loadVar, run_agg hg, run_size hsz, this]
  · rename_i c ha hg
    split at h
    · rename_i x q' hc
      simp at h; obtain ⟨rfl, rfl⟩ := h
      obtain ⟨b, o, vs, h1, h2, h3, h4⟩ := cellsAt_V hs.mem.bk hc (hs.one ha).1 hq
      obtain ⟨v, us, rfl, h5, h6⟩ := h4
      refine Good.val hs (v' := v) ?_ h5
      have := h3 0 v rfl
      rw [Nat.add_zero] at this
      simp [execOp, Instr.loadAt, h1, Instr.sureAddr, loadVar, run_agg hg, this]
    · cases h
  · cases h
theorem eNilCheck_good (hs : Sees T η ρ w Z ev bk E p) {x : Operand} (h : eNilCheck ev x = some (e, q)) : Good P T η ρ w Z bk E nid ⟨dst, .nilCheck x, ty, pos, aft, gd⟩ e := by
  unfold eNilCheck at h
  split at h
  · rename_i hx
    obtain rfl := okv_eq h
    have hc := (hs.one hx).1
    refine Good.val hs (v' := E x) ?_ hc
    obtain ⟨-, hc⟩ := hc
    simp [execOp, hc]
  · rename_i hx
    obtain rfl := okv_eq h
    have hc := (hs.one hx).1
    refine Good.val hs (v' := E x) ?_ hc
    simp only [Sc.V] at hc
    simp [execOp, hc]
  · rename_i hx
    obtain rfl := okv_eq h
    have hc := (hs.one hx).1
    refine Good.val hs (v' := E x) ?_ hc
    obtain ⟨b, o, us, hc, -⟩ := hc
    simp [execOp, hc]
  · cases h
theorem eUnOp_good (hs : Sees T η ρ w Z ev bk E p) {op : UnOp} {t : TypeId} {x : Operand} (h : eUnOp ev op x = some (e, q)) : Good P T η ρ w Z bk E nid ⟨dst, .unOp op t x, ty, pos, aft, gd⟩ e := by
  unfold eUnOp at h
  split at h
  · rename_i k a hx
    obtain rfl := okv_eq h
    have hc := (hs.one hx).1
    simp only [Sc.V] at hc
    exact Good.val hs (v' := .int k (k.wrap (-(a.d T η).int))) (by simp [execOp, hc, Op.unary, Op.intArith]) (by simp [SV.V, S1.V, Sc.V, mk2_d, den2, X.d])
  · rename_i a hx
    obtain rfl := okv_eq h
    have hc := (hs.one hx).1
    simp only [Sc.V] at hc
    exact Good.val hs (v' := .bool (!(a.d T η).bool)) (by simp [execOp, hc, Op.unary]) (by simp [SV.V, S1.V, Sc.V, mk1_d, den1])
  · cases h
theorem eConvert_good (hs : Sees T η ρ w Z ev bk E p) {src d' : TypeId} {x : Operand} (h : eConvert P ev src d' x = some (e, q)) : Good P T η ρ w Z bk E nid ⟨dst, .convert src d' x, ty, pos, aft, gd⟩ e := by
  unfold eConvert at h
  split at h
  · rename_i k1 k k2 a hsr hd hx
    obtain rfl := okv_eq h
    have hc := (hs.one hx).1
    simp only [Sc.V] at hc
    exact Good.val hs (v' := .int k (k.wrap (a.d T η).int)) (by simp [execOp, hc, convert, run_underlying hsr, run_underlying hd, Conv.intToInt]) (by simp [SV.V, S1.V, Sc.V, mk1_d, den1])
  · cases h
theorem lp_drop {ks : CK} {x : X} {v : Value} {off : Nat} (hv : (Sc.lp ks x).V T η ρ w Z v) (h : off < ks.size) :
    ∃ b o, v = .pointer (some ⟨b, o, none⟩) ∧ (Sc.lp (ks.drop off) (mk2 .drop x (.lit (.i (off : Int))))).V T η ρ w Z (.pointer (some ⟨b, o + off, none⟩)) := by
  obtain ⟨b, o, us, rfl, hz, h1, h2, h3⟩ := hv
  refine ⟨b, o, rfl, b, o + off, us.drop off, rfl, hz, ?_, fun j v hj => ?_, ?_⟩
  · have : ∀ (c : CK) (j : Nat), (c.drop j).size = c.size - j := by
      intro c
      induction c with
      | cons a t _ iht =>
        intro j
        cases j with
        | zero => rfl
        | succ j => simp only [CK.drop, CK.size, iht]; omega
      | _ => intro j; cases j <;> simp [CK.drop, CK.size]
    rw [List.length_drop, this, h1]
  · rw [List.getElem?_drop] at hj
    have := h2 _ _ hj
    rw [← Nat.add_assoc] at this
    exact this
  · rw [mk2_d]
    simpa [den2, X.d] using h3.drop off h
theorem eFieldAddr_good (hs : Sees T η ρ w Z ev bk E p) {s : TypeId} {x : Operand} {f : Nat} (h : eFieldAddr P ev s x f = some (e, q)) : Good P T η ρ w Z bk E nid ⟨dst, .fieldAddr s x f, ty, pos, aft, gd⟩ e := by
  unfold eFieldAddr at h
  split at h
  · rename_i fields c hu hx
    have hc := (hs.one hx).1
    split at h
    · rename_i fd hfd
      split at h
      · rename_i n hn
        split at h
        · cases h
        rename_i hn0
        have hrun : ∀ b o, E x = .pointer (some ⟨b, o, none⟩) → (execOp E ⟨dst, .fieldAddr s x f, ty, pos, aft, gd⟩).run P w = .ok (.value (.pointer (some ⟨b, o + fd.offset, none⟩))) w := by
          intro b o he
          simp only [execOp, Instr.fieldAt, Sem.run_bind, run_underlying hu, Result.andThen_ok, hfd, he, Instr.sureAddr, Sem.run_pure, fieldPlace, run_size hn, if_neg hn0]
          simp [add_adr]
        split at h
        · obtain rfl := okv_eq h
          obtain ⟨h0, hc⟩ := hc
          exact Good.val hs (hrun _ _ hc) ⟨h0, by simp [Nat.add_assoc]⟩
        · obtain rfl := okv_eq h
          simp only [Sc.V] at hc
          exact Good.val hs (hrun _ _ hc) (by simp [SV.V, S1.V, Sc.V, Nat.add_assoc])
        · split at h
          · rename_i hlt
            obtain rfl := okv_eq h
            obtain ⟨b, o, he, hv⟩ := lp_drop hc hlt
            exact Good.val hs (hrun _ _ he) hv
          · cases h
        · cases h
      · cases h
    · cases h
  · cases h
theorem eField_good (hs : Sees T η ρ w Z ev bk E p) {t : TypeId} {x : Operand} {f : Nat} (h : eField P ev t x f = some (e, q)) : Good P T η ρ w Z bk E nid ⟨dst, .field t x f, ty, pos, aft, gd⟩ e := by
  unfold eField at h
  split at h
  · rename_i fields l hu hx
    split at h
    · rename_i fd hfd
      obtain ⟨v, hv, h⟩ := bind_eq h
      obtain rfl := okv_eq h
      obtain ⟨vs, h1, h2⟩ := hs.ev _ _ hx
      obtain ⟨u, h3, h4⟩ := run_part hv h2 w
      exact Good.val hs (v' := u) (by simp [execOp, Instr.field, run_underlying hu, hfd, h1, asAgg, h3]) h4
    · cases h
  · cases h
theorem elemOf_good (hs : Sees T η ρ w Z ev bk E p) {t elem : TypeId} {len n : Nat} {x ix : Operand} {c : Sc} {k : IntKind} {i : X} {j : Int} {q0 : List X} (hu : P.underlying t = some (.array len elem)) (hx : one? (ev x) = some c) (hi : one? (ev ix) = some (.int k i)) (hn : tSize P elem = some n)
    (hj : (i.d T η).int = j) (hb : 0 ≤ j ∧ j < len) (h : elemOf c n j.toNat q0 = some (e, q)) : Good P T η ρ w Z bk E nid ⟨dst, .indexAddr t x ix, ty, pos, aft, gd⟩ e := by
  have hc := (hs.one hx).1
  have hi' := (hs.one hi).1
  simp only [Sc.V] at hi'
  unfold elemOf at h
  split at h
  · simp only [Option.some.injEq, Prod.mk.injEq] at h; obtain ⟨rfl, rfl⟩ := h
    obtain ⟨h0, hc⟩ := hc
    exact Good.val hs (v' := .pointer (some ⟨(ρ _).b, (ρ _).off + (_ + j.toNat * n), none⟩)) (by simp [execOp, Instr.indexAt, run_underlying hu, hc, hi', hj, asIntOf, Instr.sureAddr, hb, run_size hn, add_adr, Nat.add_assoc]) ⟨h0, rfl⟩
  · simp only [Option.some.injEq, Prod.mk.injEq] at h; obtain ⟨rfl, rfl⟩ := h
    simp only [Sc.V] at hc
    exact Good.val hs (v' := .pointer (some ⟨(ρ _).b, _ + (_ + j.toNat * n), none⟩)) (by simp [execOp, Instr.indexAt, run_underlying hu, hc, hi', hj, asIntOf, Instr.sureAddr, hb, run_size hn, add_adr, Nat.add_assoc]) rfl
  · split at h
    · rename_i hlt
      simp only [Option.some.injEq, Prod.mk.injEq] at h; obtain ⟨rfl, rfl⟩ := h
      obtain ⟨b, o, he, hv⟩ := lp_drop hc hlt
      exact Good.val hs (by simp [execOp, Instr.indexAt, run_underlying hu, he, hi', hj, asIntOf, Instr.sureAddr, hb, run_size hn, add_adr]) hv
    · cases h
  · cases h
theorem idx_needs {x i : X} (hq : ∀ y ∈ needs [mk2 .le (.lit (.i 0)) i, mk2 .lt i (mk1 .len x)], (y.d T η).bool = true) : 0 ≤ (i.d T η).int ∧ (i.d T η).int < ((x.d T η).len : Int) := by
  have hq := needs_mem hq
  have q1 := le_of (hq (mk2 .le (.lit (.i 0)) i) (by simp))
  have q2 := lt_of (hq (mk2 .lt i (mk1 .len x)) (by simp))
  simp only [X.d, D.int_i, mk1_d, den1] at q1 q2
  exact ⟨q1, q2⟩
theorem lpAt_good (hs : Sees T η ρ w Z ev bk E p) {t elem : TypeId} {n : Nat} {x ix : Operand} {ck : CK} {y i : X} {k : IntKind} (hu : P.underlying t = some (.slice elem)) (hR : R w Z (.lst ck) (y.d T η) [E x]) (hi : one? (ev ix) = some (.int k i)) (hn : tSize P elem = some n)
    (h : lpAt ck n y i = some (e, q)) (hq : ∀ y ∈ q, (y.d T η).bool = true) : Good P T η ρ w Z bk E nid ⟨dst, .indexAddr t x ix, ty, pos, aft, gd⟩ e := by
  have hi' := (hs.one hi).1
  simp only [Sc.V] at hi'
  unfold lpAt at h
  split at h
  · rename_i hc
    simp at h; obtain ⟨rfl, rfl⟩ := h
    obtain ⟨q1, q2⟩ := idx_needs hq
    obtain ⟨a, m, c, h1, h2, h3, h4⟩ := hR
    simp at h1
    obtain ⟨b, o, us, rfl, hz, g1, g2, g3⟩ := h4 (i.d T η).int.toNat (by omega)
    refine Good.val hs (v' := .pointer (some ⟨b, o + (i.d T η).int.toNat * ck.size, none⟩)) ?_ ⟨b, _, us, rfl, hz, g1, g2, by rw [mk2_d]; exact g3⟩
    have hlt : (i.d T η).int < (m : Int) := by omega
    simp [execOp, Instr.indexAt, run_underlying hu, h1, hi', asIntOf, q1, hlt, run_size hn, add_adr, hc.1]
  · cases h
theorem rowAt_good (hs : Sees T η ρ w Z ev bk E p) {t elem : TypeId} {n : Nat} {x ix : Operand} {c : Sc} {i : X} {k : IntKind} (hu : P.underlying t = some (.slice elem)) (hx : one? (ev x) = some c) (hi : one? (ev ix) = some (.int k i)) (hn : tSize P elem = some n)
    (h : rowAt bk c n i = some (e, q)) (hq : ∀ y ∈ q, (y.d T η).bool = true) : Good P T η ρ w Z bk E nid ⟨dst, .indexAddr t x ix, ty, pos, aft, gd⟩ e := by
  have hc := (hs.one hx).1
  have hi' := (hs.one hi).1
  simp only [Sc.V] at hi'
  unfold rowAt at h
  split at h
  · rename_i id
    simp only [Sc.V] at hc
    split at h
    · rename_i t' ck y hb
      split at h
      · rename_i hcc
        simp at h; obtain ⟨rfl, rfl⟩ := h
        obtain ⟨q1, q2⟩ := idx_needs hq
        have hV := hs.mem.bk _ _ hb
        obtain ⟨us, g1, g2, g3, g4⟩ := row_cells hV (m := (i.d T η).int.toNat) (by omega)
        obtain ⟨k1, -, vs, k2, -⟩ := hV
        have hl : (ρ id).hdr = .slice (some ⟨(ρ id).b, 0, none⟩) (ρ id).len (ρ id).cap := by unfold Pl.hdr; rw [g4, k1]; rfl
        have hlen : (ρ id).len = (y.d T η).len := by
          rcases k2.2 with ⟨h5, h6⟩ | ⟨g, cap, cur, e1, -⟩
          · rw [hl] at h5; cases h5
          · rw [hl] at e1; simp at e1; exact e1.2.1
        refine Good.val hs (v' := .pointer (some ⟨(ρ id).b, (i.d T η).int.toNat * n + 0, none⟩)) ?_ rfl
        have hlt : (i.d T η).int < ((ρ id).len : Int) := by omega
        simp [execOp, Instr.indexAt, run_underlying hu, hc, hl, hi', asIntOf, q1, hlt, run_size hn, add_adr]
      · cases h
    · rename_i ck y hb
      have hV := hs.mem.bk _ _ hb
      refine lpAt_good hs hu ?_ hi hn h hq
      rw [hc]; exact hV
    · cases h
  · exact lpAt_good hs hu hc hi hn h hq
  · cases h
theorem eIndexAddr_good (hs : Sees T η ρ w Z ev bk E p) (hpc : pc.ok T η) {t : TypeId} {x ix : Operand} (h : eIndexAddr P pc ev bk t x ix = some (e, q)) (hq : ∀ y ∈ q, (y.d T η).bool = true) : Good P T η ρ w Z bk E nid ⟨dst, .indexAddr t x ix, ty, pos, aft, gd⟩ e := by
  unfold eIndexAddr at h
  split at h
  · rename_i len elem c k i hu hx hi
    split at h
    · rename_i n j q0 hn hix
      split at h
      · rename_i hb
        refine elemOf_good hs hu hx hi hn (idxLit_i hpc hix ?_) hb h
        intro y hy
        refine hq y ?_
        unfold elemOf at h
        split at h
        · simp at h; rw [← h.2]; exact hy
        · simp at h; rw [← h.2]; exact hy
        · split at h <;> simp at h; rw [← h.2]; exact hy
        · cases h
      · cases h
    · cases h
  · rename_i elem c k i hu hx hi
    split at h
    · rename_i n hn
      exact rowAt_good hs hu hx hi hn h hq
    · cases h
  · cases h
theorem ofBytes_len (s : ByteArray) : (D.ofBytes s).len = s.size := by
  have : ∀ l : List D, (D.of l).len = l.length := by
    intro l
    induction l with
    | nil => rfl
    | cons a l ih => simp [D.of, D.len, ih]
  unfold D.ofBytes
  rw [this]
  simp
theorem eExtract_good (hs : Sees T η ρ w Z ev bk E p) {t : Operand} {i : Nat} (h : eExtract ev t i = some (e, q)) : Good P T η ρ w Z bk E nid ⟨dst, .extract t i, ty, pos, aft, gd⟩ e := by
  unfold eExtract at h
  split at h
  · rename_i l hl
    obtain ⟨v, hv, h⟩ := bind_eq h
    obtain rfl := okv_eq h
    obtain ⟨vs, h1, h2⟩ := hs.ev _ _ hl
    obtain ⟨u, h3, h4⟩ := h2.get hv
    exact Good.val hs (v' := u) (by simp [execOp, Instr.extract, h1, h3]) h4
  · cases h
end
end
end Go.Sz
