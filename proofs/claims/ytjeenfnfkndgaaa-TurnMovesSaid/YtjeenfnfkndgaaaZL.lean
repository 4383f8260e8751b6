/- The evaluator speaks true of operations, fourth part: stores, parts of slices, append. -/
import Derived.Test.YtjeenfnfkndgaaaZK
namespace Go.Sz
open Go Go.RowKit
noncomputable section
section
variable {P : Program} {T : Tab} {η : Env} {ρ ρ' : Plc} {w w' : World} {Z Z' : Nat → Prop} {ev : Operand → Option SV} {bk : BK} {E : Operand → Value} {p : Nat → Bool} {nid : Nat} {o : Oper} {e : Eff} {q : List X} {pc : PC}
  {dst : Option Tmp} {ty : TypeId} {pos : String} {aft : Array Edge} {gd : Option (Nat × Bool)}
theorem setCells_rest (b : Nat) : ∀ (l : List Value) (w : World) (o : Nat), (w.setCells b o l).os = w.os ∧ (w.setCells b o l).tape = w.tape ∧ (w.setCells b o l).output = w.output ∧ (w.setCells b o l).heap.size = w.heap.size
  | [], _, _ => ⟨rfl, rfl, rfl, rfl⟩
  | v :: l, w, o => by
    obtain ⟨h1, h2, h3, h4⟩ := setCells_rest b l (w.setCell ⟨b, o, none⟩ v) (o + 1)
    exact ⟨h1, h2, h3, h4.trans (World.size_setCell _ _ _)⟩
theorem setCells_block {b k : Nat} (h : k ≠ b) : ∀ (l : List Value) (w : World) (o : Nat), (w.setCells b o l).heap[k]? = w.heap[k]?
  | [], _, _ => rfl
  | v :: l, w, o => (setCells_block h l (w.setCell ⟨b, o, none⟩ v) (o + 1)).trans (Below.heap_setCell w _ _ k h)
/-- cells of a block as an array, after a store of one of them -/
theorem setCells_cells {b : Nat} {el : TypeId} {fz : Nat × Nat} : ∀ (l : List Value) (w : World) (o : Nat) (cur : List Value), w.heap[b]? = some (.cells cur.toArray el fz) → o + l.length ≤ cur.length →
    (w.setCells b o l).heap[b]? = some (.cells (cur.take o ++ l ++ cur.drop (o + l.length)).toArray el fz)
  | [], w, o, cur, h, _ => by simpa [World.setCells] using h
  | v :: l, w, o, cur, h, hl => by
    simp only [List.length_cons] at hl
    have h1 : (w.setCell ⟨b, o, none⟩ v).heap[b]? = some (.cells (cur.set o v).toArray el fz) := by
      have hb : b < w.heap.size := (Array.getElem?_eq_some_iff.1 h).1
      simp only [World.setCell, Array.getElem?_modify, if_pos, h, Option.map_some]
      simp
    have := setCells_cells l (w.setCell ⟨b, o, none⟩ v) (o + 1) (cur.set o v) h1 (by simp; omega)
    have e : w.setCells b o (v :: l) = (w.setCell ⟨b, o, none⟩ v).setCells b (o + 1) l := rfl
    rw [e, this]
    have h2 : (cur.set o v).take (o + 1) = cur.take o ++ [v] := by
      rw [List.take_succ_eq_append_getElem (by simp; omega)]
      simp only [List.take_set, List.getElem_set_self]
      rw [List.set_eq_of_length_le (by simp; omega)]
    have h3 : (cur.set o v).drop (o + 1 + l.length) = cur.drop (o + (l.length + 1)) := by
      rw [List.drop_set_of_lt (by omega)]
      congr 1; omega
    rw [h2, h3]
    simp
/-- values put into a list -/
def putAt (l : List Value) (o : Nat) (vs : List Value) : List Value := l.take o ++ vs ++ l.drop (o + vs.length)
theorem putAt_get {l : List Value} {o : Nat} {vs : List Value} (h : o + vs.length ≤ l.length) (j : Nat) : (putAt l o vs)[j]? = if j < o then l[j]? else if j < o + vs.length then vs[j - o]? else l[j]? := by
  unfold putAt
  have h1 : (l.take o).length = o := by simp; omega
  split
  · rename_i hj
    rw [List.append_assoc, List.getElem?_append_left (by omega), List.getElem?_take, if_pos hj]
  · rename_i hj
    split
    · rename_i hj2
      rw [List.append_assoc, List.getElem?_append_right (by omega), List.getElem?_append_left (by omega), h1]
    · rename_i hj2
      have h2 : (l.take o ++ vs).length = o + vs.length := by simp; omega
      rw [List.getElem?_append_right (by omega), List.getElem?_drop, h2, show o + vs.length + (j - (o + vs.length)) = j by omega]
theorem putAt_len {l : List Value} {o : Nat} {vs : List Value} (h : o + vs.length ≤ l.length) : (putAt l o vs).length = l.length := by unfold putAt; simp; omega
theorem putAt_take {l : List Value} {o n : Nat} {vs : List Value} (h : o + vs.length ≤ n) (hn : n ≤ l.length) : (putAt l o vs).take n = putAt (l.take n) o vs := by
  apply List.ext_getElem?
  intro j
  have h3 : (l.take n).length = n := by simp; omega
  rw [List.getElem?_take, putAt_get (by omega), putAt_get (by omega)]
  simp only [List.getElem?_take]
  by_cases hj : j < n
  · rw [if_pos hj]
    split
    · rfl
    · split
      · rfl
      · rfl
  · rw [if_neg hj, if_neg (by omega), if_neg (by omega), if_neg hj]
theorem Pl.at_of {r : Pl} (h : r.nil = false) : r.at r.b := ⟨h, rfl⟩
/-- a block of the caller's is written; rows may be written no more -/
theorem Did.write (hs : Sees T η ρ w Z ev bk E p) {ws : Ws} (hr : Rows bk ws) {id : Nat} {b0 b : Blk} {v' : Value} {w' : World} (h0 : bk id = some b0) (hm0 : b0.mut = true) (hm : b.mut = true) (hne : ∀ q ∈ ws, q.1 ≠ id)
    (hrest : w'.os = w.os ∧ w'.tape = w.tape ∧ w'.output = w.output ∧ w'.heap.size = w.heap.size) (hother : ∀ g, g ≠ (ρ id).b → w'.heap[g]? = w.heap[g]?) (hnil : (ρ id).nil = false)
    (hb : b.V T η ρ w' (frzZ ρ Z ws) (ρ id)) (hv : v' = undef) : Did T η ρ w Z { v := .tup [], wr := (id, some b) :: ws } nid v' w' ρ (frzZ ρ Z ws) := by
  have hat : (ρ id).at (ρ id).b := ⟨hnil, rfl⟩
  have hnz : ¬frzZ ρ Z ws (ρ id).b := by
    rintro (hz | ⟨q, hq, hq'⟩)
    · exact (hs.mem.own _ _ h0 hm0 _ hat).2 hz
    · obtain ⟨t, e, x, h1, -⟩ := hr q hq
      exact hne q hq (hs.mem.inj _ _ _ _ _ h1 h0 rfl hm0 hq' hat)
  have hsame : ∀ g, frzZ ρ Z ws g → w'.heap[g]? = w.heap[g]? := fun g hg => hother g fun e => by subst e; exact hnz hg
  refine ⟨hrest.1, hrest.2.1, hrest.2.2.1, by rw [hrest.2.2.2]; exact Nat.le_refl _, fun _ _ => rfl, ⟨[], by rw [hv]; rfl, rfl⟩, fun g hg hn => hother g fun e => ?_, fun i c hc => ?_, (fun _ _ h => nomatch h), (fun _ _ h => nomatch h), (fun _ _ _ _ _ h => nomatch h), fun _ h => .inl h, fun g hg => by rw [hrest.2.2.2]; exact frz_lt hs hr g hg, fun g hg => ?_⟩
  · subst e
    exact hn _ (List.mem_cons_self ..) hat
  · rcases List.mem_cons.1 hc with h | h
    · simp only [Prod.mk.injEq, Option.some.injEq] at h
      obtain ⟨rfl, rfl⟩ := h
      exact hb
    · obtain ⟨t, e, x, h1, h2⟩ := hr _ h
      simp at h2; subst h2
      have := row_R (Z' := frzZ ρ Z ws) (hs.mem.bk _ _ h1) (fun g hg => .inl hg) fun g hg => .inr ⟨_, h, hg⟩
      exact R.mono hsame (fun _ h => h) this
  · rcases hg with hg | ⟨q, hq, hat'⟩
    · exact .inl hg
    · refine .inr (.inr ⟨q, List.mem_cons_of_mem _ hq, fun b hb => ?_, hat'⟩)
      obtain ⟨t, e, x, -, h2⟩ := hr q hq
      rw [h2] at hb; simp at hb; subst hb; rfl
theorem storeBox_good (hs : Sees T η ρ w Z ev bk E p) {t : TypeId} {a x : Operand} {id off n : Nat} {v : S1} (ha : one? (ev a) = some (.ptr id off)) (hn : tSize P t = some n) (hx : ev x = some (.v v)) (h : storeBox bk id off n v = some (e, q)) :
    Good P T η ρ w Z bk E nid ⟨dst, .store t a x, ty, pos, aft, gd⟩ e := by
  unfold storeBox at h
  split at h
  · rename_i cs hb
    split at h
    · rename_i hc
      simp only [Option.some.injEq, Prod.mk.injEq] at h
      obtain ⟨rfl, -⟩ := h
      obtain ⟨hc1, hc2, hc3⟩ := hc
      obtain ⟨h0, ha'⟩ := (hs.one ha).1
      obtain ⟨vs, h1, h2⟩ := S1.V.cells (hs.ev _ _ hx)
      obtain ⟨g0, g1, us, g2, g3⟩ := hs.mem.bk _ _ hb
      have hvl := h2.len
      have hul := g2.len
      have hcell : ∀ j, j < vs.length → (w.cell? ⟨(ρ id).b, (ρ id).off + off + j, none⟩).isSome = true ∧ w.frozen? ⟨(ρ id).b, (ρ id).off + off + j, none⟩ = false := fun j hj => by
        have hlt : off + j < us.length := by omega
        have := g3 (off + j) us[off + j] (by simp [hlt])
        rw [← Nat.add_assoc] at this
        exact ⟨by rw [this.1]; rfl, this.2⟩
      have hst := run_storeCells_cells (P := P) (ρ id).b ((ρ id).off + off) vs 0 w (fun j hj => (hcell j hj).1) (fun j hj => (hcell j hj).2) h2.mem
      simp only [Nat.add_zero] at hst
      have hrun : (execOp E ⟨dst, .store t a x, ty, pos, aft, gd⟩).run P w = .ok .skip (w.setCells (ρ id).b ((ρ id).off + off) vs) := by
        simp [execOp, Instr.storeAt, ha', Instr.sureAddr, storeVar, run_size hn, h1, hvl, hc1, hst]
      refine ⟨?_, fun q hq => ?_⟩
      · unfold Does
        rw [hrun]
        refine ⟨ρ, _, Did.write (ws := []) hs nofun hb rfl rfl nofun (setCells_rest _ _ _ _) (fun g hg => setCells_block hg _ _ _) h0 ?_ rfl⟩
        rw [frz_nil]
        have hsame : Same Z w (w.setCells (ρ id).b ((ρ id).off + off) vs) := fun g hg => setCells_block (fun e => by subst e; exact (hs.mem.own _ _ hb rfl _ ⟨h0, rfl⟩).2 hg) _ _ _
        have hib := (hs.bkp _ _ hb).1
        have hiv : v.cells.all (Sc.ids p) = true := by simpa [SV.ids, S1.ids] using hs.evp _ _ hx
        refine ⟨g0, by rw [(setCells_rest _ _ _ _).2.2.2]; exact g1, us.take off ++ vs ++ us.drop (off + n), ?_, fun j u hj => ?_⟩
        · have hmo : ∀ {l : List Sc} {r : List Value}, VL T η ρ w Z l r → l.all (Sc.ids p) = true → VL T η ρ (w.setCells (ρ id).b ((ρ id).off + off) vs) Z l r := fun hv hi => VL.mono (fun _ _ => rfl) hsame (fun _ h => h) hv hi
          have hall := List.all_eq_true.1 hib
          refine VL.append (VL.append (hmo (VL.take off g2) (List.all_eq_true.2 fun c hc => hall c (List.mem_of_mem_take hc))) (hmo h2 hiv)) (hmo (VL.drop (off + n) g2) (List.all_eq_true.2 fun c hc => hall c (List.mem_of_mem_drop hc)))
        · have hn' : vs.length = n := by omega
          rw [World.frozen?_setCells]
          have hout : ∀ j, j < off ∨ off + n ≤ j → (w.setCells (ρ id).b ((ρ id).off + off) vs).cell? ⟨(ρ id).b, (ρ id).off + j, none⟩ = w.cell? ⟨(ρ id).b, (ρ id).off + j, none⟩ := fun j hj =>
            World.cell?_setCells_out _ _ _ _ _ (fun _ _ => by simp only; omega)
          rcases Nat.lt_or_ge j off with hlt | hge
          · rw [List.append_assoc, List.getElem?_append_left (by simp; omega), List.getElem?_take, if_pos hlt] at hj
            rw [hout j (.inl hlt)]
            exact g3 j u hj
          · rcases Nat.lt_or_ge j (off + n) with hlt2 | hge2
            · rw [List.append_assoc, List.getElem?_append_right (by simp; omega), List.getElem?_append_left (by simp; omega)] at hj
              have hlen : (us.take off).length = off := by simp; omega
              rw [hlen] at hj
              have hlt3 : j - off < vs.length := by omega
              have := World.cell?_setCells_in (ρ id).b vs ((ρ id).off + off) w (fun j hj => (hcell j hj).1) (j - off) hlt3
              rw [show (ρ id).off + off + (j - off) = (ρ id).off + j by omega] at this
              rw [List.getElem?_eq_getElem hlt3] at hj
              simp only [Option.some.injEq] at hj
              rw [this, hj]
              refine ⟨rfl, ?_⟩
              have h5 : j < us.length := by omega
              exact (g3 j us[j] (by simp [h5])).2
            · rw [List.getElem?_append_right (by simp; omega), List.getElem?_drop] at hj
              have hlen : (us.take off ++ vs).length = off + n := by simp; omega
              rw [hlen, show off + n + (j - (off + n)) = j by omega] at hj
              rw [hout j (.inr hge2)]
              exact g3 j u hj
      · rw [List.mem_singleton] at hq; subst hq; exact ⟨_, hb, rfl⟩
    · cases h
  · cases h
theorem storeRow_good (hs : Sees T η ρ w Z ev bk E p) {t : TypeId} {a x : Operand} {id sz off n : Nat} {ix : X} {v : S1} (ha : one? (ev a) = some (.rp id sz ix off)) (hn : tSize P t = some n) (hx : ev x = some (.v v)) (h : storeRow bk id sz ix off n v = some (e, q)) (hq : ∀ y ∈ q, (y.d T η).bool = true) :
    Good P T η ρ w Z bk E nid ⟨dst, .store t a x, ty, pos, aft, gd⟩ e := by
  unfold storeRow at h
  split at h
  · rename_i t' ck c hb
    split at h
    · rename_i hc
      obtain ⟨hc1, hc2, hc3, hc4⟩ := hc
      split at h
      · rename_i l hl
        split at h
        · rename_i y ws hp
          split at h
          · rename_i hne
            simp only [Option.some.injEq, Prod.mk.injEq] at h
            obtain ⟨rfl, rfl⟩ := h
            have hq := needs_mem hq
            have q1 := le_of (hq (mk2 .le (.lit (.i 0)) ix) (by simp))
            have q2 := lt_of (hq (mk2 .lt ix (mk1 .len c)) (by simp))
            simp only [X.d, D.int_i, mk1_d, den1] at q1 q2
            generalize hM : (ix.d T η).int.toNat = M at *
            have hML : M < (c.d T η).len := by omega
            have hV := hs.mem.bk _ _ hb
            obtain ⟨us, g1, g2, g3, g4⟩ := row_cells hV hML
            obtain ⟨k1, k2, xs, k3, k4⟩ := hV
            have ha' : E a = .pointer (some ⟨(ρ id).b, M * sz + off, none⟩) := by have := (hs.one ha).1; simp only [Sc.V, hM] at this; exact this
            obtain ⟨vs, h1, h2⟩ := S1.V.cells (hs.ev _ _ hx)
            have hvl := h2.len
            have hrows := packL_rows hp
            have hne' : ∀ q ∈ ws, q.1 ≠ id := fun q hq => by simpa using List.all_eq_true.1 hne q hq
            -- the row's cells
            obtain ⟨cap, cur, e1, e2, e3, e4, e5, e6⟩ : ∃ cap cur, (ρ id).hdr = .slice (some ⟨(ρ id).b, 0, none⟩) (c.d T η).len cap ∧ w.heap[(ρ id).b]? = some (.cells cur t' (0, 0)) ∧ (c.d T η).len ≤ cap ∧ cap ≤ maxLen ∧ cur.size = cap * ck.size ∧ cur.toList.take ((c.d T η).len * ck.size) = xs := by
              rcases k3.2 with ⟨h5, h6⟩ | ⟨g, cap, cur, e1, -, e2, e3, e4, e5, e6⟩
              · omega
              · have : (ρ id).b = g := by
                  unfold Pl.hdr at e1
                  rw [g4] at e1
                  simp at e1; exact e1.1.1
                subst this
                exact ⟨cap, cur, e1, e2, e3, e4, e5, e6⟩
            have hxl : xs.length = (c.d T η).len * ck.size := k3.1
            have hfit : M * sz + off + vs.length ≤ xs.length := by
              rw [hxl, hvl, hc1, hc2]
              have : (M + 1) * sz ≤ (c.d T η).len * sz := Nat.mul_le_mul_right _ hML
              rw [Nat.succ_mul] at this
              omega
            have hcl : xs.length ≤ cur.toList.length := by rw [← e6]; simp; omega
            have hcs : xs.length ≤ cur.size := by rw [← Array.length_toList]; exact hcl
            have hcell : ∀ j, j < vs.length → (w.cell? ⟨(ρ id).b, M * sz + off + j, none⟩).isSome = true ∧ w.frozen? ⟨(ρ id).b, M * sz + off + j, none⟩ = false := fun j hj => by
              have : M * sz + off + j < cur.size := by omega
              simp [World.cell?, World.frozen?, e2, this]
            have hst := run_storeCells_cells (P := P) (ρ id).b (M * sz + off) vs 0 w (fun j hj => (hcell j hj).1) (fun j hj => (hcell j hj).2) h2.mem
            simp only [Nat.add_zero] at hst
            have hrun : (execOp E ⟨dst, .store t a x, ty, pos, aft, gd⟩).run P w = .ok .skip (w.setCells (ρ id).b (M * sz + off) vs) := by
              simp [execOp, Instr.storeAt, ha', Instr.sureAddr, storeVar, run_size hn, h1, hvl, hc1, hst]
            refine ⟨?_, fun q hq => ?_⟩
            · unfold Does
              rw [hrun]
              refine ⟨ρ, _, Did.write hs hrows hb rfl rfl hne' (setCells_rest _ _ _ _) (fun g hg => setCells_block hg _ _ _) g4 ?_ rfl⟩
              have hnz : ∀ g, frzZ ρ Z ws g → g ≠ (ρ id).b := by
                rintro g hg rfl
                rcases hg with hz | ⟨q, hq, hq'⟩
                · exact (hs.mem.own _ _ hb rfl _ ⟨g4, rfl⟩).2 hz
                · obtain ⟨t2, e, x, r1, -⟩ := hrows q hq
                  exact hne' q hq (hs.mem.inj _ _ _ _ _ r1 hb rfl rfl hq' ⟨g4, rfl⟩)
              have hsame : Same (frzZ ρ Z ws) w (w.setCells (ρ id).b (M * sz + off) vs) := fun g hg => setCells_block (hnz g hg) _ _ _
              have hdlen : ((mk3 .set c ix y).d T η).len = (c.d T η).len := by rw [mk3_d]; simp only [den3, D.len_set]
              have hcur := setCells_cells vs w (M * sz + off) cur.toList (by simpa using e2) (Nat.le_trans hfit hcl)
              have hcur : (w.setCells (ρ id).b (M * sz + off) vs).heap[(ρ id).b]? = some (.cells (putAt cur.toList (M * sz + off) vs).toArray t' (0, 0)) := hcur
              have hce : ck.size = sz := hc2
              refine ⟨k1, k2, putAt xs (M * sz + off) vs, ⟨by rw [hdlen, ← hxl, putAt_len hfit], .inr ⟨(ρ id).b, cap, _, by rw [hdlen]; exact e1, Nat.zero_le _, hcur, by rw [hdlen]; exact e3, e4, ?_, ?_⟩⟩, fun m hm => ?_⟩
              · rw [List.size_toArray, putAt_len (by omega), Array.length_toList, e5]
              · rw [hdlen, ← hxl]
                simp only
                rw [putAt_take hfit hcl, hxl, e6]
              · rw [hdlen] at hm
                have hmb : m * sz + sz ≤ (c.d T η).len * sz := by
                  have : (m + 1) * sz ≤ (c.d T η).len * sz := Nat.mul_le_mul_right _ hm
                  rw [Nat.succ_mul] at this; exact this
                by_cases hmM : m = M
                · subst hmM
                  have hul := unpack_V (T := T) (η := η) (ρ := ρ) hl (us := us) (by rw [D.drop_zero, mk2_d]; simp only [den2, hM]; exact g2)
                  have hn' : off + n = off + vs.length := by omega
                  obtain ⟨r1, r2⟩ := packL_R (Z' := frzZ ρ Z ws) hs.mem.bk (fun g hg => .inl hg) hp (VL.append (VL.append (VL.take off hul) h2) (VL.drop (off + n) hul)) (frz_kept ρ Z ws)
                  rw [hn'] at r1 r2
                  refine ⟨putAt us off vs, r2, ?_, fun j u hj => ?_⟩
                  · rw [mk3_d]
                    simp only [den3, hM]
                    rw [D.get_set_self _ _ _ hML]
                    exact R.mono hsame (fun _ h => h) r1
                  · have hul' : off + vs.length ≤ us.length := by omega
                    have hjl : j < us.length := by rw [← putAt_len hul']; exact (List.getElem?_eq_some_iff.1 hj).1
                    rw [putAt_get hul'] at hj
                    rw [putAt_get hfit, hce]
                    have husx : us[j]? = xs[m * sz + j]? := by
                      have h5 := g3 j us[j] (by simp [hjl])
                      rw [List.getElem?_eq_getElem hjl, ← h5]
                      have hxl' : xs.length = (c.d T η).len * sz := by rw [hxl, hce]
                      have hus : us.length = sz := by rw [g1, hce]
                      have hlt : m * sz + j < cur.size := by omega
                      have hxs : xs[m * sz + j]? = cur[m * sz + j]? := by
                        rw [← e6, List.getElem?_take, if_pos (by rw [hce]; omega)]; simp
                      rw [hxs, hce]
                      simp [World.cell?, e2]
                    by_cases c1 : j < off
                    · rw [if_pos c1] at hj
                      rw [if_pos (by omega), ← husx]; exact hj
                    · rw [if_neg c1] at hj
                      rw [if_neg (by omega)]
                      by_cases c2 : j < off + vs.length
                      · rw [if_pos c2] at hj
                        rw [if_pos (by omega), show m * sz + j - (m * sz + off) = j - off by omega]; exact hj
                      · rw [if_neg c2] at hj
                        rw [if_neg (by omega), ← husx]; exact hj
                · obtain ⟨us0, z1, z2, z3⟩ := k4 m hm
                  refine ⟨us0, z1, ?_, fun j u hj => ?_⟩
                  · rw [mk3_d]
                    simp only [den3, hM]
                    rw [D.get_set_ne _ _ _ _ (fun e => hmM e.symm)]
                    exact R.mono (Z := Z) (fun g hg => hsame g (.inl hg)) (fun g hg => .inl hg) z2
                  · have hjl : j < ck.size := by rw [← z1]; exact (List.getElem?_eq_some_iff.1 hj).1
                    rw [putAt_get hfit, hce]
                    have := z3 j u hj
                    rw [hce] at this
                    rw [this]
                    rcases Nat.lt_or_ge m M with hlt | hge
                    · have : (m + 1) * sz ≤ M * sz := Nat.mul_le_mul_right _ hlt
                      rw [Nat.succ_mul] at this
                      rw [if_pos (by omega)]
                    · have : (M + 1) * sz ≤ m * sz := Nat.mul_le_mul_right _ (by omega)
                      rw [Nat.succ_mul] at this
                      rw [if_neg (by omega), if_neg (by omega)]
            · rcases List.mem_cons.1 hq with h | h
              · subst h; exact ⟨_, hb, rfl⟩
              · exact hrows.alive q h
          · cases h
        · cases h
      · cases h
    · cases h
  · cases h
theorem eStore_good (hs : Sees T η ρ w Z ev bk E p) {t : TypeId} {a x : Operand} (h : eStore P ev bk t a x = some (e, q)) (hq : ∀ y ∈ q, (y.d T η).bool = true) : Good P T η ρ w Z bk E nid ⟨dst, .store t a x, ty, pos, aft, gd⟩ e := by
  unfold eStore at h
  split at h
  · rename_i ha hn hx
    exact storeBox_good hs ha hn hx h
  · rename_i ha hn hx
    exact storeRow_good hs ha hn hx h hq
  · cases h
end
end
end Go.Sz
