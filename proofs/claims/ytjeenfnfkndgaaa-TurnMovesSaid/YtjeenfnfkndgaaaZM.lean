/- The evaluator speaks true of operations, fifth part: parts of slices, rows made and appended to. -/
import Derived.Test.YtjeenfnfkndgaaaZL
import Derived.Laws.MakeOwn
namespace Go.Sz
open Go Go.RowKit
noncomputable section
section
variable {P : Program} {T : Tab} {η : Env} {ρ ρ' : Plc} {w w' : World} {Z Z' : Nat → Prop} {ev : Operand → Option SV} {bk : BK} {E : Operand → Value} {p : Nat → Bool} {nid : Nat} {o : Oper} {e : Eff} {q : List X} {pc : PC}
  {dst : Option Tmp} {ty : TypeId} {pos : String} {aft : Array Edge} {gd : Option (Nat × Bool)}
theorem bound_ok {k : IntKind} {x : Int} {y : Nat} {code : BoundsCode} (h0 : 0 ≤ x) (h1 : x ≤ y) (w : World) : (Instr.sliceBound (.int k x) y code).run P w = .ok x.toNat w := by
  simp [Instr.sliceBound, asIntOf, h0, h1]
theorem sliceArg_V (hs : Sees T η ρ w Z ev bk E p) {lo : Option Operand} {l : Option X} (h : sliceArg ev lo = some l) : (lo = none ∧ l = none) ∨ ∃ a x k, lo = some a ∧ l = some x ∧ E a = .int k (x.d T η).int := by
  cases lo with
  | none => simp [sliceArg] at h; exact .inl ⟨rfl, h.symm⟩
  | some a =>
    simp only [sliceArg] at h
    split at h
    · rename_i k x hx
      simp at h; subst h
      exact .inr ⟨a, x, k, rfl, rfl, (hs.one hx).1⟩
    · cases h
variable (T η) in
def optI (h : Option X) (d : Int) : Int := match h with
  | some x => (x.d T η).int
  | none => d
theorem bounds_ok (hs : Sees T η ρ w Z ev bk E p) {lo hi : Option Operand} {l h : Option X} (hl : sliceArg ev lo = some l) (hh : sliceArg ev hi = some h) {n cap : Nat} {a b : Int} (ha : ((l.getD (.lit (.i 0))).d T η).int = a) (hb : b = optI T η h (n : Int))
    (q1 : 0 ≤ a) (q2 : a ≤ b) (q3 : b ≤ n) (q4 : n ≤ cap) : (Instr.sliceBounds true n cap (lo.map E) (hi.map E) none).run P w = .ok (a.toNat, b.toNat, cap) w := by
  have hb1 : ∀ (k : IntKind) (x : Int) (code : BoundsCode), x = b → (Instr.sliceBound (.int k x) cap code).run P w = .ok b.toNat w := fun k x code e => by subst e; exact bound_ok (by omega) (by omega) w
  have ha1 : ∀ (k : IntKind) (x : Int) (code : BoundsCode), x = a → (Instr.sliceBound (.int k x) b.toNat code).run P w = .ok a.toNat w := fun k x code e => by subst e; exact bound_ok (by omega) (by omega) w
  unfold Instr.sliceBounds
  rcases sliceArg_V hs hl with ⟨rfl, rfl⟩ | ⟨oa, xa, ka, rfl, rfl, ea⟩ <;> rcases sliceArg_V hs hh with ⟨rfl, rfl⟩ | ⟨ob, xb, kb, rfl, rfl, eb⟩
  · simp only [Option.getD_none, X.d, D.int_i] at ha
    subst ha
    simp [hb, optI]
  · simp only [Option.getD_none, X.d, D.int_i] at ha
    subst ha
    simp only [optI] at hb
    simp [eb, hb1 kb _ _ hb.symm]
  · simp only [Option.getD_some] at ha
    simp only [optI] at hb
    have := ha1 ka _ .sliceB ha
    rw [hb, Int.toNat_natCast] at this
    simp [ea, this, hb]
  · simp only [Option.getD_some] at ha
    simp only [optI] at hb
    simp [ea, eb, hb1 kb _ _ hb.symm, ha1 ka _ _ ha]
theorem cutX_get {l h : Option X} {x : X} {a b : Int} (ha : ((l.getD (.lit (.i 0))).d T η).int = a) (hb : b = optI T η h ((x.d T η).len : Int)) (q1 : 0 ≤ a) (q2 : a ≤ b) (q3 : b ≤ (x.d T η).len) :
    ((cutX l h x).d T η).len = b.toNat - a.toNat ∧ ∀ k, k < b.toNat - a.toNat → ((cutX l h x).d T η).get k = (x.d T η).get (a.toNat + k) := by
  have h1 : ∀ y : X, (∀ k, k < b.toNat → (y.d T η).get k = (x.d T η).get k) → (y.d T η).len = b.toNat → ((match l with | some a => mk2 .drop y a | none => y).d T η).len = b.toNat - a.toNat ∧ ∀ k, k < b.toNat - a.toNat → ((match l with | some a => mk2 .drop y a | none => y).d T η).get k = (x.d T η).get (a.toNat + k) := by
    intro y hy hlen
    cases l with
    | none =>
      simp only [Option.getD_none, X.d, D.int_i] at ha
      subst ha
      simp only [Int.toNat_zero, Nat.sub_zero, Nat.zero_add]
      exact ⟨hlen, hy⟩
    | some z =>
      simp only [Option.getD_some] at ha
      simp only [mk2_d, den2, ha, D.len_drop, D.get_drop, hlen, true_and]
      exact fun k hk => hy _ (by omega)
  unfold cutX
  cases h with
  | none =>
    simp only [optI] at hb
    refine h1 x (fun _ _ => rfl) (by omega)
  | some y =>
    simp only [optI] at hb
    refine h1 _ (fun k hk => ?_) ?_
    · rw [mk2_d]; simp only [den2]; rw [← hb]; exact D.get_take _ _ _ hk
    · rw [mk2_d]; simp only [den2, D.len_take]; rw [← hb]; omega
theorem eSlice_good (hs : Sees T η ρ w Z ev bk E p) {t : TypeId} {x : Operand} {lo hi mx : Option Operand} (h : eSlice P ev bk t x lo hi mx = some (e, q)) (hq : ∀ y ∈ q, (y.d T η).bool = true) : Good P T η ρ w Z bk E nid ⟨dst, .slice t x lo hi mx, ty, pos, aft, gd⟩ e := by
  unfold eSlice at h
  split at h
  · split at h
    · rename_i elem c l hh hu hx hl hh'
      split at h
      · rename_i ck y ws n hsx hn
        split at h
        · rename_i hc
          simp only [Option.some.injEq, Prod.mk.injEq] at h
          obtain ⟨rfl, rfl⟩ := h
          unfold cutNeed at hq
          have hq := needs_mem hq
          have q1 := le_of (hq _ (List.mem_cons_self ..))
          have q2 := le_of (hq _ (List.mem_cons_of_mem _ (List.mem_cons_self ..)))
          have q3 := le_of (hq _ (List.mem_cons_of_mem _ (List.mem_cons_of_mem _ (List.mem_cons_self ..))))
          have hR := sliceX_R (Z' := frzZ ρ Z ws) hs.mem.bk hsx (hs.one hx).1 (fun g hg => .inl hg) (frz_kept ρ Z ws)
          obtain ⟨a, m, cap, h1, h2, h3, h4⟩ := hR
          simp at h1
          generalize ha : ((l.getD (.lit (.i 0))).d T η).int = A at *
          have hb : ((hh.getD (mk1 .len y)).d T η).int = optI T η hh ((y.d T η).len : Int) := by
            cases hh with
            | none => simp only [Option.getD_none, mk1_d, den1, D.int_i, optI]
            | some z => rfl
          generalize hB : ((hh.getD (mk1 .len y)).d T η).int = B at *
          simp only [X.d, D.int_i, mk1_d, den1] at q1 q2 q3
          have hbo := bounds_ok (P := P) hs hl hh' (n := m) (cap := cap) ha (b := B) (by rw [hb, h2]) q1 q2 (by omega) h3
          obtain ⟨g1, g2⟩ := cutX_get ha hb q1 q2 q3
          refine Good.put hs (sliceX_rows hsx) (v' := .slice (if cap = A.toNat then a else a.map (·.add (A.toNat * n))) (B.toNat - A.toNat) (cap - A.toNat)) ?_ ?_
          · simp [execOp, Instr.sliceAt, Instr.slice, h1, run_underlying hu, hbo, run_size hn]
          · refine ⟨_, _, _, rfl, g1.symm, by omega, fun k hk => ?_⟩
            obtain ⟨b, o, us, rfl, hz, r1, r2, r3⟩ := h4 (A.toNat + k) (by omega)
            refine ⟨b, o + A.toNat * n, us, ?_, hz, r1, ?_, by rw [g2 k hk]; exact r3⟩
            · rw [if_neg (by omega)]; simp [add_adr]
            · rw [hc.1] at r2 ⊢
              rw [Nat.add_mul, ← Nat.add_assoc] at r2
              exact r2
        · cases h
      · cases h
    · cases h
  · cases h
theorem eMakeSlice_good (hs : Sees T η ρ w Z ev bk E p) (hn : p nid = false) {t : TypeId} {ln cp : Operand} (h : eMakeSlice P ev bk nid t ln cp = some (e, q)) (hq : ∀ y ∈ q, (y.d T η).bool = true) : Good P T η ρ w Z bk E nid ⟨dst, .makeSlice t ln cp, ty, pos, aft, gd⟩ e := by
  unfold eMakeSlice at h
  split at h
  · rename_i elem k n k' m hu hl hc
    split at h
    · rename_i sz by_ z ck hi hz hck
      split at h
      · rename_i hcc
        obtain ⟨rfl, rfl, rfl, c1, c2, c3, c4⟩ := hcc
        obtain ⟨⟨x, ws⟩, hp, h⟩ := bind_eq h
        split at h
        · rename_i hws
          simp only at hws
          have hws : ws = [] := List.isEmpty_iff.1 hws
          subst hws
          simp only [Option.some.injEq, Prod.mk.injEq] at h
          obtain ⟨rfl, rfl⟩ := h
          have hq := needs_mem hq
          have q1 := le_of (hq _ (List.mem_cons_self ..))
          have q2 := le_of (hq _ (List.mem_cons_of_mem _ (List.mem_cons_self ..)))
          simp only [X.d, D.int_i] at q1 q2
          simp only [Option.map_eq_some_iff, Prod.mk.injEq] at hi
          obtain ⟨i, hi, i1, i2⟩ := hi
          have e1 := (hs.one hl).1
          have e2 := (hs.one hc).1
          simp only [Sc.V] at e1 e2
          generalize hN : (n.d T η).int = N at *
          obtain ⟨M, rfl⟩ : ∃ M : Nat, N = M := ⟨N.toNat, by omega⟩
          obtain ⟨v, hr, hV, hI⟩ := run_zero hz w
          obtain ⟨vs, h1, h2⟩ := S1.V.cells (hV T η ρ w Z)
          have hvl : vs.length = sz := by rw [h2.len, c1]
          have hbnd : M * sz * by_ ≤ 1000000 := by
            have : M ≤ 1000000 / by_ / sz := by omega
            calc M * sz * by_ ≤ (1000000 / by_ / sz * sz) * by_ := Nat.mul_le_mul_right _ (Nat.mul_le_mul_right _ this)
              _ ≤ (1000000 / by_) * by_ := Nat.mul_le_mul_right _ (Nat.div_mul_le_self _ _)
              _ ≤ 1000000 := Nat.div_mul_le_self _ _
          have hM : M ≤ 1000000 := by
            have h1 : M ≤ M * sz := Nat.le_mul_of_pos_right M c3
            have h2 : M * sz ≤ M * sz * by_ := Nat.le_mul_of_pos_right _ c4
            omega
          have hMby : M * by_ ≤ 1000000 := by
            have : M * by_ ≤ M * sz * by_ := Nat.mul_le_mul_right _ (Nat.le_mul_of_pos_right M c3)
            omega
          have hwrap : IntKind.i64.wrap (M : Int) = (M : Int) := by
            simp [IntKind.wrap, IntKind.bits, IntKind.signed]; omega
          have hrow : (Array.range (M * sz)).map (fun i => vs.toArray[i % vs.toArray.size]!) = ((List.replicate M vs).flatten).toArray := by
            have := range_mod vs sz hvl c3 M
            apply Array.ext'
            simpa [hvl] using this
          have hzv : i.zero = some v := by
            simp only [zeroValue, Sem.run_bind] at hr
            cases hzz : i.zero with
            | none => simp [typeInfo, hi, hzz] at hr
            | some v0 => simp [typeInfo, hi, hzz] at hr; rw [hr]
          have hrun := run_make (P := P) w t elem i v hu hi hzv .i64 .i64 (M : Int) (M : Int) (by omega) (Int.le_refl _) (by rw [i2, Int.mul_comm]; omega) (by omega)
          simp only [Int.toNat_natCast] at hrun
          have hmc : madeCells v.cells (M * i.size) = ((List.replicate M vs).flatten).toArray := by
            rw [h1, i1]; exact hrow
          rw [hmc] at hrun
          refine ⟨?_, nofun⟩
          unfold Does
          have hrun' : (execOp E ⟨dst, .makeSlice t ln cp, ty, pos, aft, gd⟩).run P w = .ok (.value (.slice (some ⟨w.heap.size, 0, none⟩) M M)) (w.alloc (.cells ((List.replicate M vs).flatten).toArray elem)) := by
            simp [execOp, e1, e2, hrun]
          rw [hrun']
          have hV2 := VL.rep h2 M
          refine ⟨_, _, Did.new (cap := M) (len := M) hs (ws := []) nofun hn ?_ ?_⟩
          · show _ = _
            rw [newPl_self]; rfl
          · rw [frz_nil]
            obtain ⟨r1, r2⟩ := packL_R (Z' := Z) hs.mem.bk (fun _ h => h) hp h2 nofun
            have hd : ((mk2 .rep n x).d T η).len = M := by rw [mk2_d]; simp only [den2, hN, D.len_rep, Int.toNat_natCast]
            refine row_V hd c2 c3 (by simp [hvl]) (by simp only [maxLen]; omega) (fun k hk => ?_) hs.mem.zlt
            have hcut : (((List.replicate M vs).flatten).drop (k * sz)).take sz = vs := by
              have : ∀ (m k : Nat), k < m → (((List.replicate m vs).flatten).drop (k * sz)).take sz = vs := by
                intro m
                induction m with
                | zero => intro k hk; omega
                | succ m ih =>
                  intro k hk
                  rw [List.replicate_succ, List.flatten_cons]
                  cases k with
                  | zero => rw [Nat.zero_mul, List.drop_zero, List.take_append_of_le_length (by omega), List.take_of_length_le (by omega)]
                  | succ k =>
                    rw [Nat.succ_mul, List.drop_append, List.drop_of_length_le (by omega), List.nil_append, show k * sz + sz - vs.length = k * sz by omega]
                    exact ih k (by omega)
              exact this M k hk
            rw [hcut, mk2_d]
            simp only [den2, hN, Int.toNat_natCast]
            rw [D.get_rep _ _ _ hk]
            exact ⟨r1, r2⟩
        · cases h
      · cases h
    · cases h
  · cases h
end
end
end Go.Sz
