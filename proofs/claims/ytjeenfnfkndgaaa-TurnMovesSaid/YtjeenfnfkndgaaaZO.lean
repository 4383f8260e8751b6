/- The evaluator speaks true of append. -/
import Derived.Test.YtjeenfnfkndgaaaZM
namespace Go.Sz
open Go Go.RowKit
noncomputable section
section
variable {P : Program} {T : Tab} {η : Env} {ρ ρ' : Plc} {w w' : World} {Z Z' : Nat → Prop} {ev : Operand → Option SV} {bk : BK} {E : Operand → Value} {p : Nat → Bool} {nid : Nat} {o : Oper} {e : Eff} {q : List X} {pc : PC}
  {dst : Option Tmp} {ty : TypeId} {pos : String} {aft : Array Edge} {gd : Option (Nat × Bool)}
theorem R.one : ∀ {c : CK} {d : D} {vs : List Value}, R w Z c d vs → ∀ u ∈ vs, u.oneCell' = true := by
  intro c
  induction c with
  | cons a b iha ihb =>
    rintro d vs ⟨v, us, rfl, h1, h2⟩ u hu
    rcases List.mem_cons.1 hu with rfl | hu
    · exact iha h1 _ (List.mem_singleton_self _)
    · exact ihb h2 u hu
  | lst e ih => rintro d vs ⟨a, n, c, rfl, -⟩ u hu; rw [List.mem_singleton] at hu; subst hu; rfl
  | str => rintro d vs ⟨s, rfl, -⟩ u hu; rw [List.mem_singleton] at hu; subst hu; rfl
  | int k => intro d vs h u hu; simp only [R] at h; subst h; rw [List.mem_singleton] at hu; subst hu; rfl
  | bool => intro d vs h u hu; simp only [R] at h; subst h; rw [List.mem_singleton] at hu; subst hu; rfl
  | nil => intro d vs h u hu; simp only [R] at h; subst h; cases hu
/-- a slice whose elements are such; nothing is said of where they lie -/
def LR (w : World) (Z : Nat → Prop) (ck : CK) (d : D) (v : Value) : Prop := ∃ a n c, v = .slice a n c ∧ n = d.len ∧ n ≤ c ∧ ∀ m, m < n → ∃ b o us, a = some ⟨b, o, none⟩ ∧ us.length = ck.size ∧ At w b (o + m * ck.size) us ∧ R w Z ck (d.get m) us
theorem R.lr {ck : CK} {d : D} {v : Value} (h : R w Z (.lst ck) d [v]) : LR w Z ck d v := by
  obtain ⟨a, n, c, h1, h2, h3, h4⟩ := h
  simp at h1
  exact ⟨a, n, c, h1, h2, h3, fun m hm => by obtain ⟨b, o, us, g1, -, g2, g3, g4⟩ := h4 m hm; exact ⟨b, o, us, g1, g2, g3, g4⟩⟩
theorem row_lr {t : TypeId} {ck : CK} {x : X} {r : Pl} (h : (Blk.row t ck x).V T η ρ w Z r) : LR w Z ck (x.d T η) r.hdr := by
  have h' := h
  obtain ⟨h1, h2, vs, h3, h4⟩ := h
  rcases h3.2 with ⟨h5, h6⟩ | ⟨g, cap, cur, e1, h6, h7, h8, -⟩
  · exact ⟨none, 0, 0, h5, h6.symm, Nat.le_refl _, fun m hm => by omega⟩
  · refine ⟨some ⟨g, 0, none⟩, _, cap, e1, rfl, h8, fun m hm => ?_⟩
    obtain ⟨us, g1, g2, g3, g4⟩ := row_cells h' hm
    have : r.b = g := by
      unfold Pl.hdr at e1
      rw [g4] at e1
      simp at e1; exact e1.1.1
    rw [this] at g3
    exact ⟨g, 0, us, rfl, g1, by rw [Nat.zero_add]; exact g3, g2⟩
theorem sliceX_lr {bk : BK} (hbk : BKV T η ρ w Z bk) {c : Sc} {e : CK} {x : X} {ws : Ws} (h : sliceX bk c = some (e, x, ws)) {v : Value} (hv : c.V T η ρ w Z v) : LR w Z e (x.d T η) v := by
  unfold sliceX at h
  split at h
  · simp at h; obtain ⟨rfl, rfl, -⟩ := h; exact R.lr hv
  · rename_i id
    simp only [Sc.V] at hv; subst hv
    split at h
    · rename_i t e' y hb
      simp at h; obtain ⟨rfl, rfl, -⟩ := h
      exact row_lr (hbk _ _ hb)
    · rename_i e' y hb
      simp at h; obtain ⟨rfl, rfl, -⟩ := h
      exact R.lr (hbk _ _ hb)
    · cases h
  · cases h
theorem mk2_app_nil (y : X) : mk2 .app (.lit .nil) y = y := by
  cases y <;> rfl
/-- all cells of a list one after the other -/
theorem R.news {ck : CK} {d : D} {v : Value} (h : LR w Z ck d v) (hm : 0 < d.len) (h0 : 0 < ck.size) : ∃ b o c news, v = .slice (some ⟨b, o, none⟩) d.len c ∧ news.length = d.len * ck.size ∧ At w b o news ∧ (∀ u ∈ news, u.oneCell' = true) ∧
    ∀ k, k < d.len → R w Z ck (d.get k) ((news.drop (k * ck.size)).take ck.size) := by
  obtain ⟨a, n, c, h1, h2, h3, h4⟩ := h
  obtain ⟨b, o, us0, rfl, -⟩ := h4 0 (by omega)
  subst h1
  have h5 : ∀ m, m < n → ∃ us, us.length = ck.size ∧ At w b (o + m * ck.size) us ∧ R w Z ck (d.get m) us := fun m hm => by
    obtain ⟨b', o', us, e, r1, r2, r3⟩ := h4 m hm
    simp at e; obtain ⟨rfl, rfl⟩ := e
    exact ⟨us, r1, r2, r3⟩
  let f : Nat → Value := fun j => (w.cell? ⟨b, o + j, none⟩).getD undef
  have hnews : ((List.range (d.len * ck.size)).map f).length = d.len * ck.size := by simp
  have hj : ∀ j, j < d.len * ck.size → ∃ us, us.length = ck.size ∧ R w Z ck (d.get (j / ck.size)) us ∧ us[j % ck.size]? = some (f j) ∧ w.cell? ⟨b, o + j, none⟩ = some (f j) := fun j hj => by
    have hdiv : j / ck.size < n := by rw [h2]; exact Nat.div_lt_of_lt_mul (by rwa [Nat.mul_comm])
    have hmod : j % ck.size < ck.size := Nat.mod_lt _ h0
    obtain ⟨us, r1, r2, r3⟩ := h5 _ hdiv
    have := r2 (j % ck.size) us[j % ck.size] (by simp [r1, hmod])
    rw [show o + j / ck.size * ck.size + j % ck.size = o + j by rw [Nat.add_assoc, Nat.div_add_mod']] at this
    refine ⟨us, r1, r3, ?_, ?_⟩
    · simp only [f, this, Option.getD_some]; simp [r1, hmod]
    · simp only [f, this, Option.getD_some]
  refine ⟨b, o, c, _, by rw [h2], hnews, fun j v hv => ?_, fun u hu => ?_, fun k hk => ?_⟩
  · have hlt : j < d.len * ck.size := by rw [← hnews]; exact (List.getElem?_eq_some_iff.1 hv).1
    obtain ⟨us, -, -, -, r4⟩ := hj j hlt
    rw [List.getElem?_map, List.getElem?_range hlt] at hv
    simp at hv; subst hv
    exact r4
  · simp only [List.mem_map, List.mem_range] at hu
    obtain ⟨j, hlt, rfl⟩ := hu
    obtain ⟨us, r1, r2, r3, -⟩ := hj j hlt
    exact R.one r2 _ (List.mem_of_getElem? r3)
  · obtain ⟨us, r1, r2, r3⟩ := h5 k (by omega)
    have : (((List.range (d.len * ck.size)).map f).drop (k * ck.size)).take ck.size = us := by
      apply List.ext_getElem?
      intro i
      rw [List.getElem?_take, List.getElem?_drop]
      split
      · rename_i hi
        have hb : k * ck.size + i < d.len * ck.size := by
          have : (k + 1) * ck.size ≤ d.len * ck.size := Nat.mul_le_mul_right _ hk
          rw [Nat.succ_mul] at this; omega
        rw [List.getElem?_map, List.getElem?_range hb]
        have := r2 i us[i] (by simp [r1, hi])
        simp only [Option.map_some, f]
        rw [← Nat.add_assoc, this]
        simp [r1, hi]
      · rename_i hi
        rw [List.getElem?_eq_none (by omega)]
    rw [this]; exact r3
/-- where a slice of one's own lies -/
def plOf : Value → Pl
  | .slice (some a) n c => ⟨a.block, a.off, n, c, false⟩
  | _ => ⟨0, 0, 0, 0, true⟩
theorem append_where {P : Program} (w : World) (base : Nat) (t ty e : TypeId) (i : TypeInfo) (z : Value) (size bytes : Nat) (ht : P.underlying t = some (.slice e)) (hi : P.info? e = some i) (hz : i.zero = some z)
    (hsize : i.size = size) (hby : i.bytes = bytes) (hzs : z.cells.size = size) (hsz : 0 < size)
    (v : Value) (n : Nat) (xs : List Value) (hown : w.ownsRow base e size v n xs)
    (a : Addr) (m c : Nat) (news : List Value) (hl : news.length = m * size) (hnews : ∀ j u, news[j]? = some u → w.cell? (a.add j) = some u) (h1 : ∀ u ∈ news, u.oneCell' = true)
    (h63 : n + m ≤ maxLen) (hbytes : (n + m) * bytes ≤ 140737488355328) (hbase : base ≤ w.heap.size) (hm : 0 < m) :
    ∃ v' w', (Builtin.append_ #[t, t] ty #[v, .slice (some a) m c]).run P w = .ok v' w' ∧ w'.ownsRow base e size v' (n + m) (xs ++ news) ∧ w.grownBy w' v.ownBlock ∧
      (v'.ownBlock = v.ownBlock ∨ v'.ownBlock = some w.heap.size) := by
  obtain ⟨v', w', hrun, r1, r2, _⟩ := run_append_own (P := P) w base t ty e i z size bytes ht hi hz hsize hby hzs hsz v n xs hown a m c news hl hnews h1 h63 hbytes hbase
  refine ⟨v', w', hrun, r1, r2, ?_⟩
  have hsmall : n + m ≤ 9223372036854775807 := by simp only [maxLen] at h63; omega
  clear r1 r2
  subst hsize
  subst hby
  have hown' := hown
  rcases hown.2 with ⟨rfl, rfl⟩ | ⟨g, cap, cur, rfl, hbg, hg, hnc, hcm, hcs, htake⟩
  · have hr := run_append_nil (P := P) (w := w) t ty e i z ht hi hz a m c news hl hnews hm (by omega) (by rw [Nat.zero_add] at hbytes; omega)
    rw [hrun] at hr
    injection hr with hv _
    rw [hv]
    exact .inr rfl
  · by_cases hroom : n + m ≤ cap
    · obtain ⟨w'', hr, _⟩ := run_append_fits (P := P) w base t ty e i i.size ht hi rfl g n cap xs hown' a m c news hl hnews h1 hroom
      rw [hrun] at hr
      injection hr with hv _
      rw [hv]
      exact .inl rfl
    · have hr := run_append_grow (P := P) (w := w) t ty e i z ht hi hz ⟨g, 0, none⟩ n cap xs hown.1 (hown.cells (g := g) rfl) a m c news hl hnews (by omega) (by omega) (growslice_fits (by omega) hbytes)
      rw [hrun] at hr
      injection hr with hv _
      rw [hv]
      exact .inr rfl
/-- nothing is appended -/
theorem append_zero {P : Program} (w : World) (t ty e : TypeId) (i : TypeInfo) (ht : P.underlying t = some (.slice e)) (hi : P.info? e = some i) {v : Value} {n : Nat} {xs : List Value} {size : Nat} (hown : w.ownsRow 0 e size v n xs) (a : Option Addr) (c : Nat) :
    (Builtin.append_ #[t, t] ty #[v, .slice a 0 c]).run P w = .ok v w := by
  have hf : (Builtin.firstCells i.size 0 (.slice a 0 c)).run P w = .ok #[] w := by
    cases a <;> simp [Builtin.firstCells, loadCells, loadCellsFrom]
  rcases hown.2 with ⟨rfl, rfl⟩ | ⟨g, cap, cur, rfl, hbg, hg, hnc, hcm, hcs, htake⟩
  · simp [Builtin.append_, run_underlying ht, sizeOf, typeInfo, hi, Builtin.lenOf, hf]
  · simp [Builtin.append_, run_underlying ht, sizeOf, typeInfo, hi, Builtin.lenOf, hf, hnc, storeCells]
theorem hdr_plOf {w : World} {e : TypeId} {size n : Nat} {v : Value} {xs : List Value} (h : w.ownsRow 0 e size v n xs) : (plOf v).hdr = v ∧ (plOf v).off = 0 ∧ ∀ g, (plOf v).at g ↔ v.ownBlock = some g := by
  rcases h.2 with ⟨rfl, rfl⟩ | ⟨g, cap, cur, rfl, -⟩
  · exact ⟨rfl, rfl, fun g => by simp [plOf, Pl.at, Value.ownBlock]⟩
  · exact ⟨rfl, rfl, fun g => by simp [plOf, Pl.at, Value.ownBlock]⟩
/-- the elements of a row that has grown -/
theorem grown_V {el : TypeId} {ck : CK} {x y : X} {xs news : List Value} {v' : Value} {ρ' : Plc} (h0 : 0 < ck.size) (hxl : xs.length = (x.d T η).len * ck.size) (hown : w'.ownsRow 0 el ck.size v' ((x.d T η).len + (y.d T η).len) (xs ++ news))
    (hx : ∀ m, m < (x.d T η).len → ∃ us, us.length = ck.size ∧ R w' Z ck ((x.d T η).get m) us ∧ ∀ (j : Nat) u, us[j]? = some u → xs[m * ck.size + j]? = some u)
    (hy : ∀ k, k < (y.d T η).len → R w' Z ck ((y.d T η).get k) ((news.drop (k * ck.size)).take ck.size)) (hnl : news.length = (y.d T η).len * ck.size) :
    (Blk.row el ck (mk2 .app x y)).V T η ρ' w' Z (plOf v') := by
  obtain ⟨h1, h2, -⟩ := hdr_plOf hown
  have hd : ((mk2 .app x y).d T η).len = (x.d T η).len + (y.d T η).len := by rw [mk2_d]; simp only [den2, D.len_app]
  refine ⟨h2, h0, xs ++ news, by rw [hd, h1]; exact hown, fun m hm => ?_⟩
  rw [hd] at hm
  rcases Nat.lt_or_ge m (x.d T η).len with hlt | hge
  · obtain ⟨us, r1, r2, r3⟩ := hx m hlt
    refine ⟨us, r1, by rw [mk2_d]; simp only [den2]; rw [D.get_app_left _ _ _ hlt]; exact r2, fun j u hj => ?_⟩
    have hjl : j < ck.size := by rw [← r1]; exact (List.getElem?_eq_some_iff.1 hj).1
    have hb : m * ck.size + j < xs.length := by
      have : (m + 1) * ck.size ≤ (x.d T η).len * ck.size := Nat.mul_le_mul_right _ hlt
      rw [Nat.succ_mul] at this; omega
    rw [List.getElem?_append_left hb]
    exact r3 j u hj
  · obtain ⟨k, rfl⟩ : ∃ k, m = (x.d T η).len + k := ⟨m - (x.d T η).len, by omega⟩
    have hk : k < (y.d T η).len := by omega
    have hlen : ((news.drop (k * ck.size)).take ck.size).length = ck.size := by
      have : (k + 1) * ck.size ≤ (y.d T η).len * ck.size := Nat.mul_le_mul_right _ hk
      rw [Nat.succ_mul] at this
      simp; omega
    refine ⟨_, hlen, by rw [mk2_d]; simp only [den2]; rw [D.get_app_right]; exact hy k hk, fun j u hj => ?_⟩
    rw [List.getElem?_take] at hj
    split at hj
    · rw [List.getElem?_drop] at hj
      rw [Nat.add_mul, Nat.add_assoc, List.getElem?_append_right (by omega), hxl, show (x.d T η).len * ck.size + (k * ck.size + j) - (x.d T η).len * ck.size = k * ck.size + j by omega]
      exact hj
    · cases hj
theorem appS_good (hs : Sees T η ρ w Z ev bk E p) (hn : p nid = false) {t : TypeId} {a b : Operand} (h : appS P bk nid t (ev a) (ev b) = some (e, q)) (hq : ∀ y ∈ q, (y.d T η).bool = true) :
    Good P T η ρ w Z bk E nid ⟨dst, .call ⟨.builtin .append, #[a, b], #[t, t]⟩, ty, pos, aft, gd⟩ e := by
  unfold appS at h
  split at h
  · rename_i el hu
    split at h
    · rename_i sz by_ z s ck y ws hi hsa hsb
      split at h
      · rename_i hc
        obtain ⟨c1, c2, c3, c4⟩ := hc
        simp only [Option.map_eq_some_iff, Prod.mk.injEq] at hi
        obtain ⟨i, hi, i1, i2, zv, hz, i3⟩ := hi
        obtain ⟨cb, hob, hsx⟩ := bind_eq hsb
        have hVb := (hs.one hob).1
        have hRb := sliceX_lr hs.mem.bk hsx hVb
        have hce : ck.size = sz := c2
        -- what is common to both
        have main : ∀ (x : X) (va : Value) (xs : List Value) (wr : Ws), w.ownsRow 0 el sz va (x.d T η).len xs → E a = va →
            (∀ m, m < (x.d T η).len → ∃ us, us.length = ck.size ∧ R w Z ck ((x.d T η).get m) us ∧ ∀ (j : Nat) u, us[j]? = some u → xs[m * ck.size + j]? = some u) →
            (∀ g, va.ownBlock = some g → ∃ id, wr = [(id, none)] ∧ (ρ id).at g ∧ (g < w.heap.size ∧ ¬Z g)) → (wr = [] ∨ ∃ id, wr = [(id, none)]) →
            (∀ y' ∈ needs [mk2 .le (mk2 .pl (mk1 .len x) (mk1 .len y)) (.lit (.i ((maxBytes / by_ : Nat) : Int)))], (y'.d T η).bool = true) →
            Does P ⟨dst, .call ⟨.builtin .append, #[a, b], #[t, t]⟩, ty, pos, aft, gd⟩ E w (fun v' w' => ∃ ρ' Z', Did T η ρ w Z { v := .v (.one (.own nid)), wr, nw := [.row el ck (mk2 .app x y)] } nid v' w' ρ' Z') := by
          intro x va xs wr hown hEa hxs hblk hwr hneed
          have q1 := le_of (needs_mem hneed _ (List.mem_singleton_self _))
          simp only [X.d, D.int_i, mk2_d, mk1_d, den1, den2] at q1
          have hlen : (x.d T η).len + (y.d T η).len ≤ maxBytes / by_ := by omega
          have hbytes : ((x.d T η).len + (y.d T η).len) * by_ ≤ 140737488355328 := Nat.le_trans (Nat.mul_le_mul_right _ hlen) (Nat.div_mul_le_self _ _)
          have h63 : (x.d T η).len + (y.d T η).len ≤ maxLen := by
            have := Nat.le_mul_of_pos_right ((x.d T η).len + (y.d T η).len) c4
            simp only [maxLen]; omega
          have hxl : xs.length = (x.d T η).len * ck.size := by rw [hce]; exact hown.1
          -- memory behind it
          have fin : ∀ (v' : Value) (w' : World) (news : List Value), (Builtin.append_ #[t, t] ty #[va, E b]).run P w = .ok v' w' → w'.ownsRow 0 el ck.size v' ((x.d T η).len + (y.d T η).len) (xs ++ news) → w.grownBy w' va.ownBlock →
              (v'.ownBlock = va.ownBlock ∨ v'.ownBlock = some w.heap.size) → (∀ k, k < (y.d T η).len → R w Z ck ((y.d T η).get k) ((news.drop (k * ck.size)).take ck.size)) → news.length = (y.d T η).len * ck.size →
              Does P ⟨dst, .call ⟨.builtin .append, #[a, b], #[t, t]⟩, ty, pos, aft, gd⟩ E w (fun v' w' => ∃ ρ' Z', Did T η ρ w Z { v := .v (.one (.own nid)), wr, nw := [.row el ck (mk2 .app x y)] } nid v' w' ρ' Z') := by
            intro v' w' news hrun ho hg hwh hRy hnl
            have hsame : Same Z w w' := fun g hz => hg.block g (hs.mem.zlt g hz) fun e => by
              obtain ⟨id, -, -, h5⟩ := hblk g e.symm
              exact h5.2 hz
            have hRy' : ∀ k, k < (y.d T η).len → R w' Z ck ((y.d T η).get k) ((news.drop (k * ck.size)).take ck.size) := fun k hk => R.mono hsame (fun _ h => h) (hRy k hk)
            have hV := grown_V (T := T) (η := η) (x := x) (y := y) (w' := w') (Z := Z) (el := el) (ρ' := fun id => if id = nid then plOf v' else ρ id) (by omega) hxl ho (fun m hm => by
              obtain ⟨us, r1, r2, r3⟩ := hxs m hm
              exact ⟨us, r1, R.mono hsame (fun _ h => h) r2, r3⟩) hRy' hnl
            obtain ⟨p1, p2, p3⟩ := hdr_plOf ho
            have hrun' : (execOp E ⟨dst, .call ⟨.builtin .append, #[a, b], #[t, t]⟩, ty, pos, aft, gd⟩).run P w = .ok (.value v') w' := by
              simp [execOp, resolve, invoke, builtin, hEa, hrun, Result.andThen]
            unfold Does
            rw [hrun']
            refine ⟨fun id => if id = nid then plOf v' else ρ id, Z, hg.os, hg.tape, hg.output, hg.size, fun id hi => if_neg fun e => by subst e; simp at hi; omega, by show _ = _; simp only [if_true]; exact p1.symm, fun g hgl hnw => hg.block g hgl fun e => ?_, fun id b hm => ?_, fun k b hk => ?_, fun k b hk hm g hat => ?_, fun k l b c g hk hl _ _ _ _ => ?_, fun _ h => h, fun g hz => Nat.lt_of_lt_of_le (hs.mem.zlt g hz) hg.size, fun _ h => .inl h⟩
            · obtain ⟨id, rfl, hat, -⟩ := hblk g e.symm
              exact hnw _ (List.mem_singleton_self _) hat
            · rcases hwr with rfl | ⟨id', rfl⟩
              · cases hm
              · simp at hm
            · cases k with
              | zero => simp at hk; subst hk; simp only [Nat.add_zero, if_true]; exact hV
              | succ k => simp at hk
            · cases k with
              | zero =>
                simp only [Nat.add_zero, if_true] at hat
                have hob' := (p3 g).1 hat
                have hlt := (ho.lt g hob').2
                rcases hwh with hw1 | hw1
                · rw [hw1] at hob'
                  obtain ⟨id, rfl, hat', h5⟩ := hblk g hob'
                  exact ⟨hlt, h5.2, .inr ⟨id, List.mem_singleton_self _, hat'⟩⟩
                · rw [hw1] at hob'
                  simp at hob'; subst hob'
                  exact ⟨hlt, fun hz => Nat.lt_irrefl _ (hs.mem.zlt _ hz), .inl (Nat.le_refl _)⟩
              | succ k => simp at hk
            · have h1 := (List.getElem?_eq_some_iff.1 hk).1
              have h2 := (List.getElem?_eq_some_iff.1 hl).1
              simp at h1 h2; omega
          rcases Nat.eq_zero_or_pos (y.d T η).len with hz0 | hpos
          · obtain ⟨aa, m, cc, h1, h2, -⟩ := hRb
            rw [hz0] at h2; subst h2
            have := append_zero (P := P) w t ty el i hu hi (v := va) hown aa cc
            refine fin va w [] (by rw [h1]; exact this) (by rw [hz0, hce]; simpa using hown) ⟨rfl, rfl, rfl, Nat.le_refl _, fun _ _ _ => rfl⟩ (.inl rfl) (fun k hk => by omega) (by simp [hz0])
          · obtain ⟨b', o', c', news, h1, h2, h3, h4, h5⟩ := R.news hRb hpos (by omega)
            obtain ⟨v', w', hr, ho, hgr, hwh⟩ := append_where (P := P) w 0 t ty el i zv sz by_ hu hi hz i1 i2 (i3.trans c1) c3 va _ xs hown ⟨b', o', none⟩ (y.d T η).len c' news (by rw [h2, hce]) (fun j u hj => by rw [add_adr]; exact h3 j u hj) h4 h63 hbytes (Nat.zero_le _) hpos
            exact fin v' w' news (by rw [h1]; exact hr) (by rw [hce]; exact ho) hgr hwh h5 h2
        split at h
        · simp only [Option.some.injEq, Prod.mk.injEq] at h
          obtain ⟨rfl, rfl⟩ := h
          have hEa : E a = .slice none 0 0 := (hs.one hsa).1
          refine ⟨?_, nofun⟩
          have := main (.lit .nil) (.slice none 0 0) [] [] ⟨by simp [X.d, D.len], .inl ⟨rfl, rfl⟩⟩ hEa (fun m hm => by simp [X.d, D.len] at hm) (fun g hg => by simp [Value.ownBlock] at hg) (.inl rfl) hq
          rw [mk2_app_nil] at this
          exact this
        · rename_i r
          split at h
          · rename_i el' ck' x hb
            split at h
            · rename_i hcc
              obtain ⟨rfl, rfl, -⟩ := hcc
              simp only [Option.some.injEq, Prod.mk.injEq] at h
              obtain ⟨rfl, rfl⟩ := h
              have hEa : E a = (ρ r).hdr := (hs.one hsa).1
              obtain ⟨k1, k2, xs, k3, k4⟩ := hs.mem.bk _ _ hb
              refine ⟨main x (ρ r).hdr xs [(r, none)] (by rw [← hce]; exact k3) hEa k4 (fun g hg => ⟨r, rfl, ?_, ?_⟩) (.inr ⟨r, rfl⟩) hq, fun q hq => ?_⟩
              · unfold Pl.hdr at hg
                split at hg
                · simp [Value.ownBlock] at hg
                · rename_i hnl; simp [Value.ownBlock] at hg; exact ⟨by simpa using hnl, hg⟩
              · refine hs.mem.own _ _ hb rfl g ?_
                unfold Pl.hdr at hg
                split at hg
                · simp [Value.ownBlock] at hg
                · rename_i hnl; simp [Value.ownBlock] at hg; exact ⟨by simpa using hnl, hg⟩
              · rw [List.mem_singleton] at hq; subst hq; exact ⟨_, hb, rfl⟩
            · cases h
          · cases h
        · cases h
      · cases h
    · cases h
  · cases h
end
end
end Go.Sz
